/- The walks of layer 3: what comes of an iterator, appended. · Layer 14: rows of parts; Grow, Concat, Clone. After layer 10's rows of entries. -/
import Derived.Test.YtoblmhpjendbfaaGreatDoorJb04
import Derived.WalkSmall
import Derived.Maps.OwnIn
import Derived.Test.YtoblmhpjendbfaaGreatDoorJb03
import Derived.Maps.AppendAt
import Derived.Lib.AppendZeros
import Derived.Lib.Hide
import Derived.Laws.OwnMore
import Derived.Laws.ResultCell
import Derived.Lib.SliceRun
import Derived.WalkSpells
namespace Go.Proofs.YtoblmhpjendbfaaGreatDoor.Rg
set_option maxRecDepth 20000
open Go.RowKit Go.Shelf
set_option linter.unusedVariables false

/-- The cells of ranges. -/
def cellsOf (l : List Ran) : List Value := l.flatMap fun x => [.int .u64 x.1, .int .u64 x.2]
theorem cellsOf_append (l m : List Ran) : cellsOf (l ++ m) = cellsOf l ++ cellsOf m := by simp [cellsOf]
theorem cellsOf_length (l : List Ran) : (cellsOf l).length = l.length * 2 := by
  induction l with
  | nil => rfl
  | cons x l ih => rw [show x :: l = [x] ++ l from rfl, cellsOf_append, List.length_append, ih, List.length_append]; simp [cellsOf]; omega
theorem cellsOf_get : ∀ (l : List Ran) (i : Nat), i < l.length → (cellsOf l)[i * 2]? = some (.int .u64 (l.getD i (0, 0)).1) ∧ (cellsOf l)[i * 2 + 1]? = some (.int .u64 (l.getD i (0, 0)).2)
  | [], i, h => by simp at h
  | x :: l, 0, _ => by simp [cellsOf]
  | x :: l, i + 1, h => by
    have := cellsOf_get l i (by simpa using h)
    have e1 : (i + 1) * 2 = i * 2 + 1 + 1 := by omega
    have e2 : cellsOf (x :: l) = .int .u64 x.1 :: .int .u64 x.2 :: cellsOf l := by simp [cellsOf]
    rw [e1, e2]
    simpa using this
theorem set_one {A : World} {B : Nat} {u : Value} {t : TypeId} (h : A.heap[B]? = some (.cells #[u] t (0, 0))) (u' : Value) : (A.setCell ⟨B, 0, none⟩ u').heap[B]? = some (.cells #[u'] t (0, 0)) := by
  obtain ⟨hlt, hk⟩ := Array.getElem?_eq_some_iff.1 h
  show (A.heap.modify B _)[B]? = _
  rw [Array.getElem?_eq_getElem (by rw [Array.size_modify]; exact hlt), Array.getElem_modify_self, hk]
  rfl
/-- A slice that owns these ranges. -/
def Ow (w : World) (base : Nat) (e : TypeId) (v : Value) (l : List Ran) : Prop := w.ownsRow base e 2 v l.length (cellsOf l)
theorem Ow.rd {w : World} {base : Nat} {e : TypeId} {v : Value} {l : List Ran} (h : Ow w base e v l) : Rd w v l := by
  have h0 := h
  rcases h.2 with ⟨rfl, hn⟩ | ⟨g, cap, cur, rfl, _, _, hcap, _⟩
  · exact ⟨none, 0, by rw [hn], by omega, fun hne => absurd (List.eq_nil_of_length_eq_zero hn) hne⟩
  · refine ⟨some ⟨g, 0, none⟩, cap, rfl, hcap, fun hne => ⟨g, 0, rfl, fun i hi => ?_⟩⟩
    have := cellsOf_get l i hi
    rw [Nat.zero_add]
    exact ⟨(World.ownsRow.cellAt h0 (i * 2) (by omega)).trans this.1, (World.ownsRow.cellAt h0 (i * 2 + 1) (by omega)).trans this.2⟩
theorem Ow.lt {w : World} {base : Nat} {e : TypeId} {v : Value} {l : List Ran} (h : Ow w base e v l) {k : Nat} (hk : v.ownBlock = some k) : base ≤ k ∧ k < w.heap.size := World.ownsRow.lt h k hk
theorem Ow.only {w w' : World} {base : Nat} {e : TypeId} {v : Value} {l : List Ran} (h : Ow w base e v l) {O : Nat → Prop} (ho : Only O w w') (hn : ∀ k, v.ownBlock = some k → ¬ O k) : Ow w' base e v l := by
  refine ⟨h.1, ?_⟩
  rcases h.2 with h2 | ⟨g, cap, cur, rfl, hb, hgg, rest⟩
  · exact .inl h2
  · exact .inr ⟨g, cap, cur, rfl, hb, ho.heap hgg (hn g rfl), rest⟩
theorem Ow.nil (w : World) (base : Nat) (e : TypeId) : Ow w base e (.slice none 0 0) [] := World.ownsRow_nil w base e 2
theorem Ow.form {w : World} {base : Nat} {e : TypeId} {v : Value} {l : List Ran} (h : Ow w base e v l) : ∃ a cap, v = .slice a l.length cap := by
  rcases h.2 with ⟨rfl, hn⟩ | ⟨g, cap, cur, rfl, _⟩
  · exact ⟨none, 0, by rw [hn]⟩
  · exact ⟨_, cap, rfl⟩

theorem infoR : (Tryz.prog.info? 153).map (fun i => (i.zero, i.size, i.bytes)) = some (some (.agg #[.int .u64 0, .int .u64 0]), 2, 16) := by kernel_rfl

/-- Between two rounds of AppendSeq's loop. -/
def SeqI37 (w : World) (base : Nat) (v : Value) (l0 : List Ran) (R : Nat → Prop) (pre : List Ran) (O : Nat → Prop) (A : World) : Prop :=
  ∃ v', A.heap[w.heap.size]? = some (.cells #[v'] 28 (0, 0)) ∧ Ow A base 153 v' (l0 ++ pre) ∧ (∀ k, v'.ownBlock = some k → ¬ O k ∧ ¬ R k ∧ (v.ownBlock = some k ∨ w.heap.size < k)) ∧ (∀ q, O q → w.heap.size + 1 ≤ q) ∧ w.heap.size + 1 ≤ A.heap.size ∧ Only (fun k => v.ownBlock = some k ∨ w.heap.size ≤ k) w A
theorem seqI37_stable (w : World) (base : Nat) (v : Value) (l0 : List Ran) (R : Nat → Prop) : Stable (SeqI37 w base v l0 R) := by
  rintro pre O O' A B ⟨v', h1, h2, h3, h4, h5, h6⟩ ho g2
  refine ⟨v', ho.heap h1 (fun h => by have := h4 _ h; omega), h2.only ho (fun k hk => (h3 k hk).1), fun k hk => ⟨fun h => ?_, (h3 k hk).2⟩, grow_ge h4 h5 g2, Nat.le_trans h5 ho.size, h6.trans' ho (fun i hi h => by have := h4 i h; omega)⟩
  rcases g2 k h with h' | h'
  · exact (h3 k hk).1 h'
  · have := (h2.lt hk).2; omega

attribute [local go_sem] Oper.semAt_some
set_option maxHeartbeats 2000000 in
theorem appendSeq37 (a0 : Option Addr) (n0 cap0 : Nat) (l0 : List Ran) (base : Nat) (g : Nat) (lb : Array Value) (xs : List Ran) (R : Nat → Prop) (w0 w : World) (eg : ∀ args w, (callFunc g args).run Tryz.prog w = .ok (.enter g args) w)
    (hit : Iter Tryz.prog g lb xs R w0) (hR : ∀ k, R k → k < w0.heap.size ∧ w.heap[k]? = w0.heap[k]?) (hsz : w0.heap.size ≤ w.heap.size) (hbase : base ≤ w.heap.size)
    (hown : Ow w base 153 (.slice a0 n0 cap0) l0) (hnR : ∀ k, (Value.slice a0 n0 cap0).ownBlock = some k → ¬ R k) (hlen : l0.length + xs.length ≤ 100000) :
    Calls Tryz.prog 196 #[.slice a0 n0 cap0, .func (.func g) #[] lb] w fun e w' => ∃ v', e = .returned v' ∧ Ow w' base 153 v' (l0 ++ xs) ∧ Only (fun k => (Value.slice a0 n0 cap0).ownBlock = some k) w w' ∧ (∀ k, v'.ownBlock = some k → ((Value.slice a0 n0 cap0).ownBlock = some k ∨ w.heap.size ≤ k)) := by
  refine (callsIn_wide (n := 0)).1 ?_
  obtain ⟨i0, hi, hz0, hz1, hz2⟩ := info_parts infoR
  have hz1 := Lib.hid hz1; have hz2 := Lib.hid hz2; have hz0 := Lib.hid hz0; have hi := Lib.hid hi
  have HIT := Lib.hid hit
  have HR := Lib.hid hR
  have HN := Lib.hid hnR
  have HOW := Lib.hid hown
  have HNS : Hid ((Value.slice a0 n0 cap0).ownBlock ≠ some w.heap.size) := Lib.hid (fun h => by have := (hown.lt h).2; omega)
  clear hit hR hnR hown
  refine callsIn_of_wp_marks Tryz.func196 rfl trivial ?_ rfl
  simp only [Tryz.ntmps196, List.size_toArray, List.length_cons, List.length_nil, Nat.reduceAdd, Nat.reduceSub, Array.replicate_succ, Array.replicate_zero, List.push_toArray, List.append_toArray, List.nil_append, List.cons_append]
  gi_wp2_with fail
  have hRs : Hid (∀ k, R k → k < w.heap.size) := Lib.hid (fun k hk => by have := (HR.out k hk).1; omega)
  refine wp_range rfl eg HIT.out (fun q hq => ⟨(HR.out q hq).1, (Below.heap_alloc w _ q (hRs.out q hq)).trans (HR.out q hq).2⟩) (by simp; omega) rfl
    (SeqI37 w base (.slice a0 n0 cap0) l0 R) (fun _ _ _ _ => False) (seqI37_stable _ _ _ _ _) (fun _ _ _ _ _ _ h _ _ => h) ?h0 ?round ?done ?stop
  case h0 =>
    refine ⟨_, World.alloc_heap_new w _, by rw [List.append_nil]; exact HOW.out.only (Only.alloc (fun _ => False) _ _) (fun _ _ h => h), fun k hk => ⟨fun h => h, HN.out k hk, .inl hk⟩, fun _ h => h.elim, by simp, Only.alloc _ _ _⟩
  case round =>
    rintro lq pre ⟨x1, x2⟩ O A hpx hw hOl ⟨v', h1, h2, h3, h4, h5, h6⟩
    have hplen : pre.length + 1 ≤ xs.length := by have := hpx.length_le; simpa using this
    simp only [enc]
    gi_wp2_with fail
    refine ⟨Only.alloc _ _ _, ?_⟩
    intro A2 ho2 hsz2
    have hx1 : A2.cell? ⟨A.heap.size, 0, none⟩ = some (.int .u64 x1) := ho2.cell (by simp [go_sem]) (fun h => by have := (hw.2 _ h).2; simp only at this; omega)
    have hx2 : A2.cell? ⟨A.heap.size, 1, none⟩ = some (.int .u64 x2) := ho2.cell (by simp [go_sem]) (fun h => by have := (hw.2 _ h).2; simp only at this; omega)
    have hbx := ho2.heap ((Below.heap_alloc A (.cells #[.int .u64 x1, .int .u64 x2] 153) w.heap.size (by omega)).trans h1) (fun h => by have := h4 _ h; omega)
    have hOW := (h2.only (Only.alloc (fun _ => False) A (.cells #[.int .u64 x1, .int .u64 x2] 153)) (fun _ _ h => h)).only ho2 (fun k hk => (h3 k hk).1)
    have hcb : A2.cell? ⟨w.heap.size, 0, none⟩ = some v' := by simp [World.cell?, hbx]
    have hz2' : A2.heap.size = A.heap.size + 1 := by simpa using hsz2
    have hAw := hw.1
    have HBX := Lib.hid hbx
    have HH3 := Lib.hid h3
    have HH4 := Lib.hid h4
    have HH6 : Hid (Only (fun k => (Value.slice a0 n0 cap0).ownBlock = some k ∨ w.heap.size ≤ k) w A2) := Lib.hid ((h6.trans (Only.alloc _ _ _)).trans' ho2 (fun i hi h => by have := h4 i h; omega))
    have HK3 : Hid (∀ k, v'.ownBlock = some k → k < A.heap.size) := Lib.hid (fun k hk => (h2.lt hk).2)
    have HL : Hid ((l0 ++ pre).length = l0.length + pre.length) := Lib.hid (by simp)
    have HOA : Hid (∀ q, O q → q < A.heap.size) := Lib.hid (fun q hq => (hw.2 q hq).2)
    have HZ2 := Lib.hid hz2'
    have hle : w.heap.size + 1 ≤ A2.heap.size := by omega
    have hltA : A.heap.size < A2.heap.size := by omega
    have hltw : w.heap.size < A2.heap.size := by omega
    have HOW2 := Lib.hid hOW
    clear h1 h2 h3 h4 h6 ho2 hsz2 hz2' hbx hOW hw hpx
    gi_wp2_with (gi_at_builtin; refine wpListIn_append_own_at _ rfl _ _ 28 rfl base 153 i0 (.agg #[.int .u64 0, .int .u64 0]) 2 16 Tryz.underlying28 hi.out hz0.out hz1.out hz2.out rfl (by decide) v' (l0 ++ pre).length (cellsOf (l0 ++ pre)) rfl (World.ownsRow.alloc HOW2.out _) ⟨A2.heap.size, 0, none⟩ 1 1 [.int .u64 x1, .int .u64 x2] rfl rfl (cell_two_new _ _ _ _) (by simp [Value.oneCell']) (by unfold maxLen; have := HL.out; omega) (by have := HL.out; omega) (by simp; omega) ?_)
    intro v'' w1 hown' hgrow _ hat
    obtain ⟨g', cap', rfl⟩ := ownsRow_succ hown'
    have hbw : w1.heap[w.heap.size]? = some (.cells #[v'] 28 (0, 0)) := by
      refine (hgrow.block _ (by rw [World.size_alloc]; omega) (fun e => ?_)).trans ((Below.heap_alloc A2 _ _ hltw).trans HBX.out)
      rcases (HH3.out _ e.symm).2.2 with h | h
      · exact HNS.out h
      · omega
    have hcw : w1.cell? ⟨w.heap.size, 0, none⟩ = some v' := by simp [World.cell?, hbw]
    have hfw : w1.frozen? ⟨w.heap.size, 0, none⟩ = false := by simp [World.frozen?, hbw]
    have hO1 : Only (Not O R) A2 w1 := (Only.alloc _ _ _).trans (Only.of_grown hgrow (fun k hk => ⟨(HH3.out k hk).1, (HH3.out k hk).2.1⟩))
    have hO2 : Only (fun k => (Value.slice a0 n0 cap0).ownBlock = some k ∨ w.heap.size ≤ k) A2 w1 := (Only.alloc _ _ _).trans (Only.of_grown hgrow (fun k hk => by rcases (HH3.out k hk).2.2 with h | h; (exact .inl h); (exact .inr (by omega))))
    have hOw1 : Ow w1 base 153 (.slice (some ⟨g', 0, none⟩) (l0.length + pre.length + 1) cap') (l0 ++ (pre ++ [(x1, x2)])) := by
      have e1 : (l0 ++ (pre ++ [(x1, x2)])).length = (l0 ++ pre).length + 1 := by simp; omega
      have e2 : cellsOf (l0 ++ (pre ++ [(x1, x2)])) = cellsOf (l0 ++ pre) ++ [.int .u64 x1, .int .u64 x2] := by rw [← List.append_assoc, cellsOf_append]; rfl
      unfold Ow
      rw [e1, e2]
      have h := hown'
      try simp only [HL.out] at h
      rw [HL.out]
      exact h
    have hg1 : Hid (¬ O g' ∧ ¬ R g' ∧ ((Value.slice a0 n0 cap0).ownBlock = some g' ∨ w.heap.size < g')) := by
      rcases hat with h | h
      · exact Lib.hid (HH3.out g' h.symm)
      · have h : g' = A2.heap.size + 1 := by simpa using Option.some.inj h
        exact Lib.hid ⟨fun h' => (by have := HOA.out _ h'; omega), fun h' => (by have := hRs.out _ h'; omega), .inr (by omega)⟩
    have HO1 := Lib.hid hO1
    have HO2' := Lib.hid hO2
    have HOw1 := Lib.hid hOw1
    have HBW := Lib.hid hbw
    have hz1' := hO1.size
    clear hO1 hO2 hOw1 hbw hown' hgrow hx1 hx2 hcb
    gi_wp2_with fail
    refine ⟨HO1.out.trans (Only.setCell ⟨fun h => (by have := HH4.out _ h; simp only at this; omega), fun h => (by have := hRs.out _ h; simp only at this; omega)⟩ _ _), .slice (some ⟨g', 0, none⟩) (l0.length + pre.length + 1) cap', ?_, ?_, fun k hk => ?_, HH4.out, by simp; omega, ?_⟩
    · exact set_one HBW.out _
    · refine HOw1.out.only (Only.setCell (O := fun k => k = w.heap.size) rfl _ _) (fun k hk => ?_)
      obtain rfl : g' = k := Option.some.inj hk
      rcases hg1.out.2.2 with h | h
      · exact fun e => HNS.out (by rw [← e]; exact h)
      · omega
    · have := Option.some.inj hk
      subst this
      exact hg1.out
    · exact ((HH6.out.trans' HO2'.out (fun i hi h => h)).trans (Only.setCell (.inr (Nat.le_refl _)) _ _))
  case done =>
    rintro D O B hw hOD hD ⟨v', h1, h2, h3, h4, h5, h6⟩
    have hcb : B.cell? ⟨w.heap.size, 0, none⟩ = some v' := by simp [World.cell?, h1]
    have H3 := Lib.hid h3
    clear h3
    gi_wp2_with fail
    refine ⟨by simp, .inl ⟨_, _, rfl, run_takeDeferred hD, ?_⟩⟩
    refine ⟨_, results_tmp rfl _ _ _, v', rfl, h2.only (Only.putObj hOD _ _) (fun k hk => (H3.out k hk).1), ?_, fun k hk => ((H3.out k hk).2.2).imp id Nat.le_of_lt⟩
    have hDw := (hw.2 D hOD).1
    have hq := h6.trans (Only.putObj (O := fun k => (Value.slice a0 n0 cap0).ownBlock = some k ∨ w.heap.size ≤ k) (l := D) (.inr (by rw [World.size_alloc] at hDw; omega)) B (.deferred none))
    exact ⟨hq.os, hq.tape, hq.output, hq.size, fun k hk hn => hq.block k hk (fun h => h.elim hn (fun h => by omega))⟩
  case stop =>
    rintro D c pre O B hw hOD hD hpre h
    exact h.elim

/-- Between two rounds of AppendSeq's loop. -/
def SeqI48 (w : World) (base : Nat) (v : Value) (l0 : List Ran) (R : Nat → Prop) (pre : List Ran) (O : Nat → Prop) (A : World) : Prop :=
  ∃ v', A.heap[w.heap.size]? = some (.cells #[v'] 27 (0, 0)) ∧ Ow A base 153 v' (l0 ++ pre) ∧ (∀ k, v'.ownBlock = some k → ¬ O k ∧ ¬ R k ∧ (v.ownBlock = some k ∨ w.heap.size < k)) ∧ (∀ q, O q → w.heap.size + 1 ≤ q) ∧ w.heap.size + 1 ≤ A.heap.size ∧ Only (fun k => v.ownBlock = some k ∨ w.heap.size ≤ k) w A
theorem seqI48_stable (w : World) (base : Nat) (v : Value) (l0 : List Ran) (R : Nat → Prop) : Stable (SeqI48 w base v l0 R) := by
  rintro pre O O' A B ⟨v', h1, h2, h3, h4, h5, h6⟩ ho g2
  refine ⟨v', ho.heap h1 (fun h => by have := h4 _ h; omega), h2.only ho (fun k hk => (h3 k hk).1), fun k hk => ⟨fun h => ?_, (h3 k hk).2⟩, grow_ge h4 h5 g2, Nat.le_trans h5 ho.size, h6.trans' ho (fun i hi h => by have := h4 i h; omega)⟩
  rcases g2 k h with h' | h'
  · exact (h3 k hk).1 h'
  · have := (h2.lt hk).2; omega

attribute [local go_sem] Oper.semAt_some
set_option maxHeartbeats 2000000 in
theorem appendSeq48 (a0 : Option Addr) (n0 cap0 : Nat) (l0 : List Ran) (base : Nat) (g : Nat) (lb : Array Value) (xs : List Ran) (R : Nat → Prop) (w0 w : World) (eg : ∀ args w, (callFunc g args).run Tryz.prog w = .ok (.enter g args) w)
    (hit : Iter Tryz.prog g lb xs R w0) (hR : ∀ k, R k → k < w0.heap.size ∧ w.heap[k]? = w0.heap[k]?) (hsz : w0.heap.size ≤ w.heap.size) (hbase : base ≤ w.heap.size)
    (hown : Ow w base 153 (.slice a0 n0 cap0) l0) (hnR : ∀ k, (Value.slice a0 n0 cap0).ownBlock = some k → ¬ R k) (hlen : l0.length + xs.length ≤ 100000) :
    Calls Tryz.prog 192 #[.slice a0 n0 cap0, .func (.func g) #[] lb] w fun e w' => ∃ v', e = .returned v' ∧ Ow w' base 153 v' (l0 ++ xs) ∧ Only (fun k => (Value.slice a0 n0 cap0).ownBlock = some k) w w' ∧ (∀ k, v'.ownBlock = some k → ((Value.slice a0 n0 cap0).ownBlock = some k ∨ w.heap.size ≤ k)) := by
  refine (callsIn_wide (n := 0)).1 ?_
  obtain ⟨i0, hi, hz0, hz1, hz2⟩ := info_parts infoR
  have hz1 := Lib.hid hz1; have hz2 := Lib.hid hz2; have hz0 := Lib.hid hz0; have hi := Lib.hid hi
  have HIT := Lib.hid hit
  have HR := Lib.hid hR
  have HN := Lib.hid hnR
  have HOW := Lib.hid hown
  have HNS : Hid ((Value.slice a0 n0 cap0).ownBlock ≠ some w.heap.size) := Lib.hid (fun h => by have := (hown.lt h).2; omega)
  clear hit hR hnR hown
  refine callsIn_of_wp_marks Tryz.func192 rfl trivial ?_ rfl
  simp only [Tryz.ntmps192, List.size_toArray, List.length_cons, List.length_nil, Nat.reduceAdd, Nat.reduceSub, Array.replicate_succ, Array.replicate_zero, List.push_toArray, List.append_toArray, List.nil_append, List.cons_append]
  gi_wp2_with fail
  have hRs : Hid (∀ k, R k → k < w.heap.size) := Lib.hid (fun k hk => by have := (HR.out k hk).1; omega)
  refine wp_range rfl eg HIT.out (fun q hq => ⟨(HR.out q hq).1, (Below.heap_alloc w _ q (hRs.out q hq)).trans (HR.out q hq).2⟩) (by simp; omega) rfl
    (SeqI48 w base (.slice a0 n0 cap0) l0 R) (fun _ _ _ _ => False) (seqI48_stable _ _ _ _ _) (fun _ _ _ _ _ _ h _ _ => h) ?h0 ?round ?done ?stop
  case h0 =>
    refine ⟨_, World.alloc_heap_new w _, by rw [List.append_nil]; exact HOW.out.only (Only.alloc (fun _ => False) _ _) (fun _ _ h => h), fun k hk => ⟨fun h => h, HN.out k hk, .inl hk⟩, fun _ h => h.elim, by simp, Only.alloc _ _ _⟩
  case round =>
    rintro lq pre ⟨x1, x2⟩ O A hpx hw hOl ⟨v', h1, h2, h3, h4, h5, h6⟩
    have hplen : pre.length + 1 ≤ xs.length := by have := hpx.length_le; simpa using this
    simp only [enc]
    gi_wp2_with fail
    refine ⟨Only.alloc _ _ _, ?_⟩
    intro A2 ho2 hsz2
    have hx1 : A2.cell? ⟨A.heap.size, 0, none⟩ = some (.int .u64 x1) := ho2.cell (by simp [go_sem]) (fun h => by have := (hw.2 _ h).2; simp only at this; omega)
    have hx2 : A2.cell? ⟨A.heap.size, 1, none⟩ = some (.int .u64 x2) := ho2.cell (by simp [go_sem]) (fun h => by have := (hw.2 _ h).2; simp only at this; omega)
    have hbx := ho2.heap ((Below.heap_alloc A (.cells #[.int .u64 x1, .int .u64 x2] 153) w.heap.size (by omega)).trans h1) (fun h => by have := h4 _ h; omega)
    have hOW := (h2.only (Only.alloc (fun _ => False) A (.cells #[.int .u64 x1, .int .u64 x2] 153)) (fun _ _ h => h)).only ho2 (fun k hk => (h3 k hk).1)
    have hcb : A2.cell? ⟨w.heap.size, 0, none⟩ = some v' := by simp [World.cell?, hbx]
    have hz2' : A2.heap.size = A.heap.size + 1 := by simpa using hsz2
    have hAw := hw.1
    have HBX := Lib.hid hbx
    have HH3 := Lib.hid h3
    have HH4 := Lib.hid h4
    have HH6 : Hid (Only (fun k => (Value.slice a0 n0 cap0).ownBlock = some k ∨ w.heap.size ≤ k) w A2) := Lib.hid ((h6.trans (Only.alloc _ _ _)).trans' ho2 (fun i hi h => by have := h4 i h; omega))
    have HK3 : Hid (∀ k, v'.ownBlock = some k → k < A.heap.size) := Lib.hid (fun k hk => (h2.lt hk).2)
    have HL : Hid ((l0 ++ pre).length = l0.length + pre.length) := Lib.hid (by simp)
    have HOA : Hid (∀ q, O q → q < A.heap.size) := Lib.hid (fun q hq => (hw.2 q hq).2)
    have HZ2 := Lib.hid hz2'
    have hle : w.heap.size + 1 ≤ A2.heap.size := by omega
    have hltA : A.heap.size < A2.heap.size := by omega
    have hltw : w.heap.size < A2.heap.size := by omega
    have HOW2 := Lib.hid hOW
    clear h1 h2 h3 h4 h6 ho2 hsz2 hz2' hbx hOW hw hpx
    gi_wp2_with (gi_at_builtin; refine wpListIn_append_own_at _ rfl _ _ 27 rfl base 153 i0 (.agg #[.int .u64 0, .int .u64 0]) 2 16 Tryz.underlying27 hi.out hz0.out hz1.out hz2.out rfl (by decide) v' (l0 ++ pre).length (cellsOf (l0 ++ pre)) rfl (World.ownsRow.alloc HOW2.out _) ⟨A2.heap.size, 0, none⟩ 1 1 [.int .u64 x1, .int .u64 x2] rfl rfl (cell_two_new _ _ _ _) (by simp [Value.oneCell']) (by unfold maxLen; have := HL.out; omega) (by have := HL.out; omega) (by simp; omega) ?_)
    intro v'' w1 hown' hgrow _ hat
    obtain ⟨g', cap', rfl⟩ := ownsRow_succ hown'
    have hbw : w1.heap[w.heap.size]? = some (.cells #[v'] 27 (0, 0)) := by
      refine (hgrow.block _ (by rw [World.size_alloc]; omega) (fun e => ?_)).trans ((Below.heap_alloc A2 _ _ hltw).trans HBX.out)
      rcases (HH3.out _ e.symm).2.2 with h | h
      · exact HNS.out h
      · omega
    have hcw : w1.cell? ⟨w.heap.size, 0, none⟩ = some v' := by simp [World.cell?, hbw]
    have hfw : w1.frozen? ⟨w.heap.size, 0, none⟩ = false := by simp [World.frozen?, hbw]
    have hO1 : Only (Not O R) A2 w1 := (Only.alloc _ _ _).trans (Only.of_grown hgrow (fun k hk => ⟨(HH3.out k hk).1, (HH3.out k hk).2.1⟩))
    have hO2 : Only (fun k => (Value.slice a0 n0 cap0).ownBlock = some k ∨ w.heap.size ≤ k) A2 w1 := (Only.alloc _ _ _).trans (Only.of_grown hgrow (fun k hk => by rcases (HH3.out k hk).2.2 with h | h; (exact .inl h); (exact .inr (by omega))))
    have hOw1 : Ow w1 base 153 (.slice (some ⟨g', 0, none⟩) (l0.length + pre.length + 1) cap') (l0 ++ (pre ++ [(x1, x2)])) := by
      have e1 : (l0 ++ (pre ++ [(x1, x2)])).length = (l0 ++ pre).length + 1 := by simp; omega
      have e2 : cellsOf (l0 ++ (pre ++ [(x1, x2)])) = cellsOf (l0 ++ pre) ++ [.int .u64 x1, .int .u64 x2] := by rw [← List.append_assoc, cellsOf_append]; rfl
      unfold Ow
      rw [e1, e2]
      have h := hown'
      try simp only [HL.out] at h
      rw [HL.out]
      exact h
    have hg1 : Hid (¬ O g' ∧ ¬ R g' ∧ ((Value.slice a0 n0 cap0).ownBlock = some g' ∨ w.heap.size < g')) := by
      rcases hat with h | h
      · exact Lib.hid (HH3.out g' h.symm)
      · have h : g' = A2.heap.size + 1 := by simpa using Option.some.inj h
        exact Lib.hid ⟨fun h' => (by have := HOA.out _ h'; omega), fun h' => (by have := hRs.out _ h'; omega), .inr (by omega)⟩
    have HO1 := Lib.hid hO1
    have HO2' := Lib.hid hO2
    have HOw1 := Lib.hid hOw1
    have HBW := Lib.hid hbw
    have hz1' := hO1.size
    clear hO1 hO2 hOw1 hbw hown' hgrow hx1 hx2 hcb
    gi_wp2_with fail
    refine ⟨HO1.out.trans (Only.setCell ⟨fun h => (by have := HH4.out _ h; simp only at this; omega), fun h => (by have := hRs.out _ h; simp only at this; omega)⟩ _ _), .slice (some ⟨g', 0, none⟩) (l0.length + pre.length + 1) cap', ?_, ?_, fun k hk => ?_, HH4.out, by simp; omega, ?_⟩
    · exact set_one HBW.out _
    · refine HOw1.out.only (Only.setCell (O := fun k => k = w.heap.size) rfl _ _) (fun k hk => ?_)
      obtain rfl : g' = k := Option.some.inj hk
      rcases hg1.out.2.2 with h | h
      · exact fun e => HNS.out (by rw [← e]; exact h)
      · omega
    · have := Option.some.inj hk
      subst this
      exact hg1.out
    · exact ((HH6.out.trans' HO2'.out (fun i hi h => h)).trans (Only.setCell (.inr (Nat.le_refl _)) _ _))
  case done =>
    rintro D O B hw hOD hD ⟨v', h1, h2, h3, h4, h5, h6⟩
    have hcb : B.cell? ⟨w.heap.size, 0, none⟩ = some v' := by simp [World.cell?, h1]
    have H3 := Lib.hid h3
    clear h3
    gi_wp2_with fail
    refine ⟨by simp, .inl ⟨_, _, rfl, run_takeDeferred hD, ?_⟩⟩
    refine ⟨_, results_tmp rfl _ _ _, v', rfl, h2.only (Only.putObj hOD _ _) (fun k hk => (H3.out k hk).1), ?_, fun k hk => ((H3.out k hk).2.2).imp id Nat.le_of_lt⟩
    have hDw := (hw.2 D hOD).1
    have hq := h6.trans (Only.putObj (O := fun k => (Value.slice a0 n0 cap0).ownBlock = some k ∨ w.heap.size ≤ k) (l := D) (.inr (by rw [World.size_alloc] at hDw; omega)) B (.deferred none))
    exact ⟨hq.os, hq.tape, hq.output, hq.size, fun k hk hn => hq.block k hk (fun h => h.elim hn (fun h => by omega))⟩
  case stop =>
    rintro D c pre O B hw hOD hD hpre h
    exact h.elim
end Go.Proofs.YtoblmhpjendbfaaGreatDoor.Rg
namespace Go.Proofs.YtoblmhpjendbfaaGreatDoor.Rg.Gt
set_option maxRecDepth 20000
open Go.RowKit Go.Shelf
set_option linter.unusedVariables false
set_option linter.unusedSimpArgs false

/-- The cells of a part: where it begins, and its bytes. -/
def gcs (T : ByteArray) (x : Ran) : List Value := [.int .u64 x.1, .string (bt T x)]
def flatG (T : ByteArray) (G : List Ran) : List Value := G.flatMap (gcs T)
theorem flatG_len (T : ByteArray) (G : List Ran) : (flatG T G).length = G.length * 2 := by
  induction G with
  | nil => rfl
  | cons f G ih =>
    show (gcs T f ++ flatG T G).length = (G.length + 1) * 2
    rw [List.length_append, ih, show (gcs T f).length = 2 from rfl]
    omega
theorem flatG_app (T : ByteArray) (G H : List Ran) : flatG T (G ++ H) = flatG T G ++ flatG T H := by simp [flatG]
theorem flatG_get (T : ByteArray) : ∀ (G : List Ran) (i j : Nat), i < G.length → j < 2 → (flatG T G)[i * 2 + j]? = (gcs T (G.getD i (0, 0)))[j]?
  | [], i, j, h, _ => by simp at h
  | f :: G, 0, j, _, hj => by
    show (gcs T f ++ flatG T G)[0 * 2 + j]? = _
    rw [List.getElem?_append_left (by show 0 * 2 + j < 2; omega), Nat.zero_mul, Nat.zero_add]
    rfl
  | f :: G, i + 1, j, h, hj => by
    show (gcs T f ++ flatG T G)[(i + 1) * 2 + j]? = _
    rw [List.getElem?_append_right (by show 2 ≤ (i + 1) * 2 + j; omega), show (i + 1) * 2 + j - (gcs T f).length = i * 2 + j by show (i + 1) * 2 + j - 2 = _; omega]
    exact flatG_get T G i j (by simpa using h) hj
theorem gcs_one (T : ByteArray) (f : Ran) : ∀ u ∈ gcs T f, u.oneCell' = true := by
  intro u hu
  simp only [gcs, List.mem_cons, List.not_mem_nil, or_false] at hu
  rcases hu with rfl | rfl <;> rfl
theorem flatG_one (T : ByteArray) (G : List Ran) : ∀ u ∈ flatG T G, u.oneCell' = true := by
  intro u hu
  obtain ⟨f, _, hf⟩ := List.mem_flatMap.1 hu
  exact gcs_one T f u hf
/-- A row of parts that the call owns. -/
def OwnG (Y : TypeId) (w : World) (B : Nat) (v : Value) (T : ByteArray) (G : List Ran) : Prop := w.ownsRow B Y 2 v G.length (flatG T G)
/-- What a type of parts and its slices have to be. -/
structure TyG (Y SL : TypeId) : Prop where
  u : Tryz.prog.underlying SL = some (.slice Y)
  i : (Tryz.prog.info? Y).map (fun i => (i.zero, i.size, i.bytes)) = some (some (.agg #[.int .u64 0, .string ⟨#[]⟩]), 2, 24)
theorem tyG : TyG 137 31 := ⟨Tryz.underlying31, by kernel_rfl⟩
/-- A row of parts that one reads. -/
def RowG (W : World) (v : Value) (T : ByteArray) (G : List Ran) : Prop := ∃ a cap, v = .slice a G.length cap ∧ G.length ≤ cap ∧ (G ≠ [] → ∃ b off, a = some ⟨b, off, none⟩ ∧ b < W.heap.size ∧ ∀ i, i < G.length → ∀ j, j < 2 → W.cell? ⟨b, off + (i * 2 + j), none⟩ = (gcs T (G.getD i (0, 0)))[j]?)
theorem RowG.go {W W' : World} {v : Value} {T : ByteArray} {G : List Ran} (h : RowG W v T G) (hb : Below W.heap.size W W') : RowG W' v T G := by
  obtain ⟨a, cap, hv, hc, hr⟩ := h
  refine ⟨a, cap, hv, hc, fun hne => ?_⟩
  obtain ⟨b, off, ha, hlt, hcl⟩ := hr hne
  exact ⟨b, off, ha, Nat.lt_of_lt_of_le hlt hb.size, fun i hi j hj => (hb.cell (p := ⟨b, off + (i * 2 + j), none⟩) hlt).trans (hcl i hi j hj)⟩
theorem RowG.nil (W : World) (T : ByteArray) : RowG W (.slice none 0 0) T [] := ⟨none, 0, rfl, Nat.le_refl _, fun h => absurd rfl h⟩
theorem RowG.form {W : World} {v : Value} {T : ByteArray} {G : List Ran} (h : RowG W v T G) : ∃ a c, v = .slice a G.length c := by
  obtain ⟨a, c, h, _⟩ := h
  exact ⟨a, c, h⟩
/-- Of such a row only its block matters. -/
theorem RowG.keep {W W' : World} {v : Value} {T : ByteArray} {G : List Ran} (h : RowG W v T G) (hz : W.heap.size ≤ W'.heap.size) (hk : ∀ k, Blk v k → W'.heap[k]? = W.heap[k]?) : RowG W' v T G := by
  obtain ⟨a, cap, rfl, hc, hr⟩ := h
  refine ⟨a, cap, rfl, hc, fun hne => ?_⟩
  obtain ⟨b, off, rfl, hlt, hcl⟩ := hr hne
  refine ⟨b, off, rfl, Nat.lt_of_lt_of_le hlt hz, fun i hi j hj => ?_⟩
  have hbk : W'.heap[b]? = W.heap[b]? := hk b ⟨List.length_pos_iff.2 hne, rfl⟩
  exact (World.cell?_of_block (a := ⟨b, off + (i * 2 + j), none⟩) hbk).trans (hcl i hi j hj)
theorem RowG.blk {W : World} {v : Value} {T : ByteArray} {G : List Ran} (h : RowG W v T G) {k : Nat} (hk : Blk v k) : k < W.heap.size := by
  obtain ⟨a, cap, rfl, hc, hr⟩ := h
  cases a with
  | none => exact hk.elim
  | some a =>
    obtain ⟨h1, h2⟩ := hk
    obtain ⟨b, off, ha, hlt, _⟩ := hr (List.length_pos_iff.1 h1)
    cases ha
    exact h2 ▸ hlt
theorem OwnG.row {Y : TypeId} {W : World} {B : Nat} {v : Value} {T : ByteArray} {G : List Ran} (h : OwnG Y W B v T G) : RowG W v T G := by
  have h0 := h
  rcases h.2 with ⟨hv, hz⟩ | ⟨g, cap, cur, hv, hb, hg, hnc, r⟩
  · have hl : G = [] := List.eq_nil_of_length_eq_zero hz
    subst hl
    exact ⟨none, 0, hv, Nat.le_refl _, fun h => absurd rfl h⟩
  · subst hv
    refine ⟨some ⟨g, 0, none⟩, cap, rfl, hnc, fun _ => ⟨g, 0, rfl, (Array.getElem?_eq_some_iff.1 hg).1, fun i hi j hj => ?_⟩⟩
    have hlen := flatG_len T G
    rw [Nat.zero_add]
    exact (World.ownsRow.cellAt h0 (i * 2 + j) (by omega)).trans (flatG_get T G i j hi hj)
theorem OwnG.form {Y : TypeId} {W : World} {B : Nat} {v : Value} {T : ByteArray} {G : List Ran} (h : OwnG Y W B v T G) : ∃ a c, v = .slice a G.length c := by
  rcases h.2 with ⟨hv, hz⟩ | ⟨g, cap, cur, hv, _⟩
  · exact ⟨none, 0, by rw [hv, hz]⟩
  · exact ⟨_, _, hv⟩
theorem OwnG.lt {Y : TypeId} {W : World} {B : Nat} {v : Value} {T : ByteArray} {G : List Ran} (h : OwnG Y W B v T G) {k : Nat} (hk : v.ownBlock = some k) : B ≤ k ∧ k < W.heap.size := World.ownsRow.lt h k hk
theorem OwnG.only {Y : TypeId} {w w' : World} {B : Nat} {v : Value} {T : ByteArray} {G : List Ran} (h : OwnG Y w B v T G) {O : Nat → Prop} (ho : Only O w w') (hn : ∀ k, v.ownBlock = some k → ¬ O k) : OwnG Y w' B v T G := by
  refine ⟨h.1, ?_⟩
  rcases h.2 with h2 | ⟨g, cap, cur, rfl, hb, hgg, rest⟩
  · exact .inl h2
  · exact .inr ⟨g, cap, cur, rfl, hb, ho.heap hgg (hn g rfl), rest⟩
theorem OwnG.go {Y : TypeId} {w w' : World} {B : Nat} {v : Value} {T : ByteArray} {G : List Ran} (h : OwnG Y w B v T G) (hb : Below w.heap.size w w') : OwnG Y w' B v T G := by
  refine ⟨h.1, ?_⟩
  rcases h.2 with h2 | ⟨g, cap, cur, rfl, hB, hgg, rest⟩
  · exact .inl h2
  · exact .inr ⟨g, cap, cur, rfl, hB, (hb.block g (Array.getElem?_eq_some_iff.1 hgg).1).trans hgg, rest⟩
theorem OwnG.mono {Y : TypeId} {w : World} {B B' : Nat} {v : Value} {T : ByteArray} {G : List Ran} (h : OwnG Y w B v T G) (hB : B' ≤ B) : OwnG Y w B' v T G := by
  refine ⟨h.1, ?_⟩
  rcases h.2 with h2 | ⟨g, cap, cur, rfl, hb, rest⟩
  · exact .inl h2
  · exact .inr ⟨g, cap, cur, rfl, Nat.le_trans hB hb, rest⟩
theorem OwnG.blk {Y : TypeId} {w : World} {B : Nat} {v : Value} {T : ByteArray} {G : List Ran} (h : OwnG Y w B v T G) {k : Nat} (hk : Blk v k) : v.ownBlock = some k ∧ B ≤ k := by
  rcases h.2 with ⟨rfl, _⟩ | ⟨g, cap, cur, rfl, hb, _⟩
  · exact hk.elim
  · have : g = k := hk.2
    subst this
    exact ⟨rfl, hb⟩
theorem rowG_cells {W : World} {T : ByteArray} {b off : Nat} {G : List Ran} (h : ∀ i, i < G.length → ∀ j, j < 2 → W.cell? ⟨b, off + (i * 2 + j), none⟩ = (gcs T (G.getD i (0, 0)))[j]?) :
    ∀ j u, (flatG T G)[j]? = some u → W.cell? ((⟨b, off, none⟩ : Addr).add j) = some u := by
  intro j u hu
  have hj : j < G.length * 2 := by rw [← flatG_len T]; exact (List.getElem?_eq_some_iff.1 hu).1
  have hq : j / 2 < G.length := by omega
  have h1 := h (j / 2) hq (j % 2) (by omega)
  have h2 := flatG_get T G (j / 2) (j % 2) hq (by omega)
  rw [show j / 2 * 2 + j % 2 = j by omega] at h1 h2
  rw [Addr.add_lit, h1, ← h2, hu]
theorem run_append_noneG {P : Program} {w : World} (base : Nat) (t ty e : TypeId) (i : TypeInfo) (size c : Nat) (ht : P.underlying t = some (.slice e)) (hi : P.info? e = some i)
    (v : Value) (n : Nat) (xs : List Value) (hown : w.ownsRow base e size v n xs) :
    (Builtin.append_ #[t, t] ty #[v, .slice none 0 c]).run P w = .ok v w := by
  rcases hown.2 with ⟨rfl, rfl⟩ | ⟨g, cap, cur, rfl, _, _, hnc, _⟩
  · simp [Builtin.append_, run_underlying ht, sizeOf, typeInfo, hi, Builtin.lenOf, Builtin.firstCells]
  · simp [Builtin.append_, run_underlying ht, sizeOf, typeInfo, hi, Builtin.lenOf, Builtin.firstCells, hnc, storeCells]
/-- Appending parts that are read to a row of our own. -/
theorem run_append_G {Y SL : TypeId} (hT : TyG Y SL) (T : ByteArray) (w : World) (base : Nat) (ty : TypeId) (v : Value) (l : List Ran) (hown : OwnG Y w base v T l) (u : Value) (m : List Ran) (hr : RowG w u T m) (hlen : l.length + m.length ≤ 100000) (hbase : base ≤ w.heap.size) :
    ∃ v' w', (Builtin.append_ #[SL, SL] ty #[v, u]).run Tryz.prog w = .ok v' w' ∧ OwnG Y w' base v' T (l ++ m) ∧ w.grownBy w' v.ownBlock ∧ (v'.ownBlock = v.ownBlock ∨ v'.ownBlock = some w.heap.size) := by
  obtain ⟨i0, hi, hz0, hz1, hz2⟩ := info_parts hT.i
  obtain ⟨a, cap, rfl, hcap, hrow⟩ := hr
  have fin : ∀ (ad : Addr), a = some ad → (∀ j u, (flatG T m)[j]? = some u → w.cell? (ad.add j) = some u) →
      ∃ v' w', (Builtin.append_ #[SL, SL] ty #[v, .slice a m.length cap]).run Tryz.prog w = .ok v' w' ∧ OwnG Y w' base v' T (l ++ m) ∧ w.grownBy w' v.ownBlock ∧ (v'.ownBlock = v.ownBlock ∨ v'.ownBlock = some w.heap.size) := by
    intro ad ha hc
    obtain ⟨v', w', h1, h2, h3, _, h4⟩ := run_append_own_at (P := Tryz.prog) w base SL ty Y i0 (.agg #[.int .u64 0, .string ⟨#[]⟩]) 2 24 hT.u hi hz0 hz1 hz2 rfl (by decide) v l.length (flatG T l) hown ad m.length cap (flatG T m) (flatG_len T m) hc (flatG_one T m) (by unfold maxLen; omega) (by omega) hbase
    refine ⟨v', w', by rw [ha]; exact h1, ?_, h3, h4⟩
    unfold OwnG
    rw [List.length_append, flatG_app]
    exact h2
  by_cases hnil : m = []
  · subst hnil
    cases a with
    | none => exact ⟨v, w, run_append_noneG base SL ty Y i0 2 cap hT.u hi v l.length (flatG T l) hown, by rw [List.append_nil]; exact hown, ⟨rfl, rfl, rfl, Nat.le_refl _, fun _ _ _ => rfl⟩, .inl rfl⟩
    | some ad => exact fin ad rfl (fun j u h => by simp [flatG] at h)
  · obtain ⟨b, off, rfl, hb, hc⟩ := hrow hnil
    exact fin _ rfl (rowG_cells hc)
theorem wpList_append_G {Y SL : TypeId} (hT : TyG Y SL) (T : ByteArray) (w : World) {ops : Array Oper} {rest : List Oper} {o : Oper} {a : Act} {Q : Exit → Act → World → Prop} (hgd : o.guard = none) (s x : Operand)
    (ho : o.op = .call { callee := .builtin .append, args := #[s, x], argTypes := #[SL, SL] })
    (base : Nat) (v : Value) (hs : a.eval s = v) (l : List Ran) (hown : OwnG Y w base v T l) (u : Value) (hx : a.eval x = u) (m : List Ran) (hr : RowG w u T m) (hlen : l.length + m.length ≤ 100000) (hbase : base ≤ w.heap.size)
    (h : ∀ a' n' c' w', OwnG Y w' base (.slice a' n' c') T (l ++ m) → w.grownBy w' v.ownBlock → ((Value.slice a' n' c').ownBlock = v.ownBlock ∨ (Value.slice a' n' c').ownBlock = some w.heap.size) → wpList Tryz.prog ops Q rest (a.put o.dst (.slice a' n' c')) w') :
    wpList Tryz.prog ops Q (o :: rest) a w := by
  obtain ⟨v', w', hrun, h1, h2, h3⟩ := run_append_G hT T w base o.type v l hown u m hr hlen hbase
  obtain ⟨a', c', rfl⟩ := h1.form
  exact Lib.wpList_append_run w hgd s x SL SL ho v u hs hx _ w' hrun (h _ _ _ _ h1 h2 h3)
theorem OwnG.nil (Y : TypeId) (W : World) (B : Nat) (T : ByteArray) : OwnG Y W B (.slice none 0 0) T [] := ⟨rfl, .inl ⟨rfl, rfl⟩⟩
theorem ownG_made (w : World) (Y : TypeId) (T : ByteArray) : OwnG Y (w.alloc (.cells #[] Y)) w.heap.size (.slice (some ⟨w.heap.size, 0, none⟩) 0 0) T [] := World.ownsRow_made w #[] 0 (Nat.le_refl _) (by unfold maxLen; omega) rfl
/-- One part in a new row. -/
theorem rowG_one (W : World) (Y : TypeId) (T : ByteArray) (x : Ran) : RowG (W.alloc (.cells #[.int .u64 x.1, .string (bt T x)] Y)) (.slice (some ⟨W.heap.size, 0, none⟩) 1 1) T [x] :=
  ⟨_, 1, rfl, Nat.le_refl _, fun _ => ⟨_, 0, rfl, by simp, fun i hi j hj => by
    obtain rfl : i = 0 := by simp at hi; omega
    have : j = 0 ∨ j = 1 := by omega
    rcases this with rfl | rfl <;> simp [go_sem, gcs]⟩⟩

set_option maxHeartbeats 1000000 in
theorem growG_zero (T : ByteArray) (w : World) : Calls Tryz.prog 162 #[.slice none 0 0, .int .i64 0] w fun e w' => ∃ v, e = .returned v ∧ OwnG 137 w' w.heap.size v T [] ∧ Below w.heap.size w w' := by
  go_enter Tryz.func162, Tryz.ntmps162
  go_wp2
  go_ret
  exact ⟨_, rfl, OwnG.nil _ _ _ _, Below.refl _ _⟩
set_option maxHeartbeats 1000000 in
theorem growG_some (T : ByteArray) (n : Nat) (hn : n ≤ 1000) (h0 : 0 < n) (w : World) : Calls Tryz.prog 162 #[.slice none 0 0, .int .i64 n] w fun e w' => ∃ v, e = .returned v ∧ OwnG 137 w' w.heap.size v T [] ∧ Below w.heap.size w w' := by
  obtain ⟨i0, hi, hz0, hz1, hz2⟩ := info_parts tyG.i
  have hrun := Lib.run_append_nil_zeros (P := Tryz.prog) w 31 3 31 137 i0 (.agg #[.int .u64 0, .string ⟨#[]⟩]) .i64 .i64 Tryz.underlying31 Tryz.underlying3 hi hz0 n h0 (by omega) (by omega) (by rw [hz2]; omega)
  have HR := Lib.hid hrun
  have hcg := grownCap_ge w n 0 137
  have hcm := grownCap_le_maxLen w n 0 137 (by unfold maxLen; omega)
  clear hrun hi hz0 hz1 hz2
  generalize hcap : grownCap w n 0 137 = cap at *
  have HCM := Lib.hid hcm
  have hcm2 : (cap : Int) ≤ 9223372036854775807 := by unfold maxLen at hcm; omega
  have hn0 : ¬ n = 0 := by omega
  clear hcm hcap
  go_enter Tryz.func162, Tryz.ntmps162
  go_wp2_with (at_builtin; refine Lib.wpList_append_run _ rfl _ _ _ _ rfl _ _ rfl rfl _ _ HR.out ?_)
  go_ret
  refine ⟨_, rfl, ?_, ((Below.refl w.heap.size w).drew).alloc (Nat.le_refl _) _⟩
  have := World.ownsRow_made (base := w.heap.size) (e := 137) (size := 2) w.drew (Builtin.zeroCells (Value.agg #[.int .u64 0, .string ⟨#[]⟩]).cells n ++ Builtin.zeroCells (Value.agg #[.int .u64 0, .string ⟨#[]⟩]).cells (cap - n)) cap (Nat.le_refl _) HCM.out (by rw [Array.size_append, size_zeroCells, size_zeroCells]; simp [Value.cells]; omega)
  exact this
theorem growG_any (T : ByteArray) (n : Nat) (hn : n ≤ 1000) (w : World) : Calls Tryz.prog 162 #[.slice none 0 0, .int .i64 n] w fun e w' => ∃ v, e = .returned v ∧ OwnG 137 w' w.heap.size v T [] ∧ Below w.heap.size w w' := by
  rcases Nat.eq_zero_or_pos n with rfl | h
  · exact growG_zero T w
  · exact growG_some T n hn h w

set_option maxHeartbeats 2000000 in
theorem concatG_any (T : ByteArray) (bb : Nat) (a1 : Option Addr) (c1 : Nat) (l1 : List Ran) (a2 : Option Addr) (c2 : Nat) (l2 : List Ran) (w : World) (hbb : bb < w.heap.size)
    (h1 : w.cell? ⟨bb, 0, none⟩ = some (.slice a1 l1.length c1)) (h2 : w.cell? ⟨bb, 1, none⟩ = some (.slice a2 l2.length c2)) (hr1 : RowG w (.slice a1 l1.length c1) T l1) (hr2 : RowG w (.slice a2 l2.length c2) T l2) (hl1 : l1.length ≤ 300) (hl2 : l2.length ≤ 300) :
    Calls Tryz.prog 134 #[.slice (some ⟨bb, 0, none⟩) 2 2] w fun e w' => ∃ v, e = .returned v ∧ OwnG 137 w' w.heap.size v T (l1 ++ l2) ∧ Below w.heap.size w w' := by
  have HR1 := Lib.hid hr1
  have HR2 := Lib.hid hr2
  clear hr1 hr2
  go_enter Tryz.func134, Tryz.ntmps134
  go_wp2
  refine wp_loop_rounds 3 ?_
  rw [rounds_succ]
  go_wp2_with fail
  rw [rounds_succ]
  go_wp2_with fail
  rw [rounds_succ]
  go_wp2_with fail
  have hg := growG_any T (l1.length + l2.length) (by omega) w
  rw [show ((l1.length + l2.length : Nat) : Int) = (l1.length : Int) + l2.length by omega] at hg
  refine hg.mono ?_
  rintro e w1 ⟨v0, rfl, o1, b1⟩
  obtain ⟨a3, c3, rfl⟩ := o1.form
  have hz1' := b1.size
  have k1 := (b1.cell (p := ⟨bb, 0, none⟩) hbb).trans h1
  have k2 := (b1.cell (p := ⟨bb, 1, none⟩) hbb).trans h2
  have O1 := Lib.hid o1
  have B1 := Lib.hid b1
  have R1 := Lib.hid (HR1.out.go b1)
  clear o1 b1 hg h1 h2
  go_wp2
  refine wp_loop_rounds 3 ?_
  rw [rounds_succ]
  go_wp2_with (at_builtin; refine wpList_append_G tyG T _ rfl _ _ rfl w.heap.size (.slice a3 0 c3) rfl [] O1.out (.slice a1 l1.length c1) rfl l1 R1.out (by simp; omega) (by omega) ?_)
  intro a4 n4 c4 w2 o2 g2 _
  have B2 := Lib.hid (B1.out.grown g2 (by omega) (fun k hk => (O1.out.lt hk).1))
  have O2 := Lib.hid o2
  have R2 := Lib.hid (HR2.out.go B2.out)
  have hz2' := B2.out.size
  have hbb1 : bb < w1.heap.size := by omega
  have k3 : w2.cell? ⟨bb, 1, none⟩ = some (.slice a2 l2.length c2) := g2.cell k2 (fun h => by have := (O1.out.lt h.symm).1; simp only at this; omega)
  clear o2 g2 k1 k2
  go_wp2_with fail
  rw [rounds_succ]
  go_wp2_with (at_builtin; refine wpList_append_G tyG T _ rfl _ _ rfl w.heap.size (.slice a4 n4 c4) rfl ([] ++ l1) O2.out (.slice a2 l2.length c2) rfl l2 R2.out (by simp; omega) (by omega) ?_)
  intro a5 n5 c5 w3 o3 g3 _
  have B3 := Lib.hid (B2.out.grown g3 (by omega) (fun k hk => (O2.out.lt hk).1))
  have O3 := Lib.hid o3
  clear o3 g3 k3
  go_wp2_with fail
  rw [rounds_succ]
  go_wp2
  go_ret
  exact ⟨_, rfl, O3.out, B3.out⟩

set_option maxHeartbeats 1000000 in
theorem cloneG_nil (T : ByteArray) (c : Nat) (w : World) :
    Calls Tryz.prog 92 #[.slice none 0 c] w fun e w' => ∃ v, e = .returned v ∧ OwnG 137 w' w.heap.size v T [] ∧ Below w.heap.size w w' := by
  have qT : ∀ (w : World) (a : Option Addr) (n c n' c' : Nat), (binOp .eql 31 (.slice a n c) (.slice none n' c')).run Tryz.prog w = .ok (.bool a.isNone) w := fun w a n c n' c' => Lib.run_eql_slice_nil w _ _ a n c n' c' Tryz.underlying31
  go_enter Tryz.func92, Tryz.ntmps92
  go_wp2
  go_ret
  exact ⟨_, rfl, OwnG.nil _ _ _ _, Below.refl _ _⟩
set_option maxHeartbeats 2000000 in
theorem cloneG_row (T : ByteArray) (a : Addr) (n c : Nat) (l : List Ran) (w : World) (hn : l.length = n) (hl : n ≤ 1000) (hrd : RowG w (.slice (some a) n c) T l) :
    Calls Tryz.prog 92 #[.slice (some a) n c] w fun e w' => ∃ v, e = .returned v ∧ OwnG 137 w' w.heap.size v T l ∧ Below w.heap.size w w' := by
  have qT : ∀ (w : World) (a : Option Addr) (n c n' c' : Nat), (binOp .eql 31 (.slice a n c) (.slice none n' c')).run Tryz.prog w = .ok (.bool a.isNone) w := fun w a n c n' c' => Lib.run_eql_slice_nil w _ _ a n c n' c' Tryz.underlying31
  subst hn
  have HB0 := Lib.hid ((Below.refl w.heap.size w).alloc (Nat.le_refl _) (.cells #[] 137))
  have HR := Lib.hid (hrd.go HB0.out)
  have HO := Lib.hid (ownG_made w 137 T)
  clear hrd
  go_enter Tryz.func92, Tryz.ntmps92
  go_wp2_with (at_builtin; refine wpList_append_G tyG T _ rfl _ _ rfl w.heap.size _ rfl [] HO.out (.slice (some a) l.length c) rfl l HR.out (by simp; omega) (by simp) ?_)
  intro a4 n4 c4 w2 o2 g2 _
  have B2 := Lib.hid (HB0.out.grown g2 (by simp) (fun k hk => (HO.out.lt hk).1))
  have O2 := Lib.hid o2
  clear o2 g2
  go_wp2_with fail
  go_ret
  exact ⟨_, rfl, O2.out, B2.out⟩
theorem cloneG_any (T : ByteArray) (a : Option Addr) (n c : Nat) (l : List Ran) (w : World) (hn : l.length = n) (hl : n ≤ 1000) (hrd : RowG w (.slice a n c) T l) :
    Calls Tryz.prog 92 #[.slice a n c] w fun e w' => ∃ v, e = .returned v ∧ OwnG 137 w' w.heap.size v T l ∧ Below w.heap.size w w' := by
  cases a with
  | some a => exact cloneG_row T a n c l w hn hl hrd
  | none =>
    obtain ⟨a', cap, e, _, h⟩ := hrd
    have : l = [] := by
      apply Classical.byContradiction
      intro hne
      obtain ⟨b, off, e2, _⟩ := h hne
      rw [e2] at e
      cases e
    subst this
    obtain rfl : n = 0 := hn.symm
    exact cloneG_nil T c w
end Go.Proofs.YtoblmhpjendbfaaGreatDoor.Rg.Gt
