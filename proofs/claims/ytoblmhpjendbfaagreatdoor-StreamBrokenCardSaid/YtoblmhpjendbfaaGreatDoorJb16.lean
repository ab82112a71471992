/- A range over an iterator that keeps memory of its own: the contract of an iterator, with the blocks that are its own, and the law of the statement. · The walks of layer 6: a reader's block; take, number, varint, below -/
import Derived.RangeFuncNested
import Derived.RangeFuncBound
import Derived.RangeFuncLeaves
import Derived.WalkKit
import Derived.Test.YtoblmhpjendbfaaGreatDoorProg
import Derived.Test.YtoblmhpjendbfaaGreatDoorJb15
import Derived.Lib.SmallJoins
import Derived.WalkSmall
import Derived.WalkLawsBesides
namespace Go.Proofs.YtoblmhpjendbfaaGreatDoor.It
set_option maxRecDepth 20000
open Go.RowKit
set_option linter.unusedVariables false

/-- Blocks of O may have turned, others not; new ones may have come. -/
structure Only (O : Nat → Prop) (A B : World) : Prop where
  os : B.os = A.os
  tape : B.tape = A.tape
  output : B.output = A.output
  size : A.heap.size ≤ B.heap.size
  block : ∀ k, k < A.heap.size → ¬ O k → B.heap[k]? = A.heap[k]?

theorem Only.refl (O : Nat → Prop) (A : World) : Only O A A := ⟨rfl, rfl, rfl, Nat.le_refl _, fun _ _ _ => rfl⟩
theorem Only.mono {O O' : Nat → Prop} {A B : World} (h : Only O A B) (ho : ∀ k, O k → O' k) : Only O' A B := ⟨h.os, h.tape, h.output, h.size, fun k hk hn => h.block k hk (fun h' => hn (ho k h'))⟩
theorem Only.trans {O : Nat → Prop} {A B C : World} (h : Only O A B) (k : Only O B C) : Only O A C :=
  ⟨k.os.trans h.os, k.tape.trans h.tape, k.output.trans h.output, Nat.le_trans h.size k.size, fun i hi hn => (k.block i (Nat.lt_of_lt_of_le hi h.size) hn).trans (h.block i hi hn)⟩
/-- What turns in the second step is new, or may turn. -/
theorem Only.trans' {O O' : Nat → Prop} {A B C : World} (h : Only O A B) (k : Only O' B C) (ho : ∀ i, i < A.heap.size → O' i → O i) : Only O A C :=
  ⟨k.os.trans h.os, k.tape.trans h.tape, k.output.trans h.output, Nat.le_trans h.size k.size, fun i hi hn => (k.block i (Nat.lt_of_lt_of_le hi h.size) (fun h' => hn (ho i hi h'))).trans (h.block i hi hn)⟩
theorem Only.alloc (O : Nat → Prop) (A : World) (o : Obj) : Only O A (A.alloc o) := ⟨rfl, rfl, rfl, by simp, fun k hk _ => Below.heap_alloc A o k hk⟩
theorem Only.putObj {O : Nat → Prop} {l : Nat} (hl : O l) (A : World) (o : Obj) : Only O A (A.putObj l o) :=
  ⟨rfl, rfl, rfl, by simp, fun k hk hn => World.putObj_heap_other (fun e => hn (by rw [e]; exact hl))⟩
theorem Only.setCell {O : Nat → Prop} {p : Addr} (hl : O p.block) (A : World) (v : Value) : Only O A (A.setCell p v) :=
  ⟨rfl, rfl, rfl, by simp [World.setCell], fun k hk hn => Below.heap_setCell A p v k (fun e => hn (by rw [e]; exact hl))⟩
theorem Only.drew (O : Nat → Prop) (A : World) : Only O A A.drew := ⟨rfl, rfl, rfl, Nat.le_refl _, fun _ _ _ => rfl⟩
theorem Only.of_below {A B : World} {n : Nat} (h : Below n A B) {O : Nat → Prop} (ho : ∀ k, k < A.heap.size → n ≤ k → O k) : Only O A B :=
  ⟨h.os, h.tape, h.output, h.size, fun k hk hn => h.block k (Nat.lt_of_not_le (fun e => hn (ho k hk e)))⟩
theorem Only.of_all {A B : World} (h : Below A.heap.size A B) (O : Nat → Prop) : Only O A B :=
  ⟨h.os, h.tape, h.output, h.size, fun k hk _ => h.block k hk⟩
theorem Only.of_grown {A B : World} {row : Option Nat} (h : A.grownBy B row) {O : Nat → Prop} (ho : ∀ k, row = some k → O k) : Only O A B :=
  ⟨h.os, h.tape, h.output, h.size, fun k hk hn => h.block k hk (fun e => hn (ho k e.symm))⟩
theorem Only.below {O : Nat → Prop} {A B : World} {n : Nat} (h : Only O A B) (hn : n ≤ A.heap.size) (ho : ∀ k, O k → n ≤ k) : Below n A B :=
  ⟨h.os, h.tape, h.output, h.size, fun k hk => h.block k (Nat.lt_of_lt_of_le hk hn) (fun e => by have := ho k e; omega)⟩
theorem Only.heap {O : Nat → Prop} {A B : World} (h : Only O A B) {k : Nat} {o : Obj} (hk : A.heap[k]? = some o) (hn : ¬ O k) : B.heap[k]? = some o :=
  (h.block k (Array.getElem?_eq_some_iff.1 hk).1 hn).trans hk
theorem Only.cell {O : Nat → Prop} {A B : World} (h : Only O A B) {a : Addr} {v : Value} (hv : A.cell? a = some v) (hn : ¬ O a.block) : B.cell? a = some v :=
  (World.cell?_of_block (h.block a.block (World.block_lt_of_cell? A a hv) hn)).trans hv

/-- What is said of a world and of the blocks that another one owns, and stands whatever that one does with these, and with new ones. -/
def Stable {β : Type} (I : β → (Nat → Prop) → World → Prop) : Prop :=
  ∀ s (O O' : Nat → Prop) A B, I s O A → Only O A B → (∀ k, O' k → O k ∨ (A.heap.size ≤ k ∧ k < B.heap.size)) → I s O' B

/-- The blocks of O came since W. -/
def Within (W : World) (O : Nat → Prop) (A : World) : Prop := W.heap.size ≤ A.heap.size ∧ ∀ k, O k → W.heap.size ≤ k ∧ k < A.heap.size

/-- What a round, or a call of yield, leaves alone: the blocks of O, and of R. -/
abbrev Not (O R : Nat → Prop) : Nat → Prop := fun k => ¬ O k ∧ ¬ R k

/-- AN ITERATOR: it hands on xs, one by one, till it is told to stop; it reads blocks of R, and has blocks of its own. -/
def Iter {α : Type} (ec : α → Array Value) (P : Program) (g : Nat) (lb : Array Value) (xs : List α) (R : Nat → Prop) (w : World) : Prop :=
  ∀ (l : Nat) (J Jx : List α → (Nat → Prop) → World → Prop) (W : World),
    (∀ k, R k → W.heap[k]? = w.heap[k]?) → w.heap.size ≤ W.heap.size → Stable J → Stable Jx →
    (∀ pre x O A, pre ++ [x] <+: xs → Within W O A → J pre O A →
      YieldAt Fence.wide 0 P l (ec x) A fun e B => Only (Not O R) A B ∧ ((e = .returned (.bool true) ∧ J (pre ++ [x]) O B) ∨ (e = .returned (.bool false) ∧ Jx (pre ++ [x]) O B))) →
    J [] (fun _ => False) W →
    CallsIn Fence.wide 0 P g (#[.func (.yield l) #[] #[]] ++ lb) W fun e B => (∃ v, e = .returned v) ∧ ∃ O, Within W O B ∧ (J xs O B ∨ ∃ pre, pre <+: xs ∧ Jx pre O B)

/-- How the body of a round may be left. -/
def roundEnd {α : Type} (R : Nat → Prop) (I : List α → (Nat → Prop) → World → Prop) (Ix : Code → List α → (Nat → Prop) → World → Prop) (xs : List α) (O : Nat → Prop) (A : World) : Exit → Act → World → Prop
  | .normal, _, B => Only (Not O R) A B ∧ I xs O B
  | .ret, _, B => Only (Not O R) A B ∧ Ix .ret xs O B
  | .exit id, _, B => Only (Not O R) A B ∧ Ix (.exit id) xs O B
  | .goto t, _, B => Only (Not O R) A B ∧ Ix (.goto t) xs O B
  | .panic _, _, _ => False
  | .outgrown, _, _ => False

theorem setPut {P : Program} (A : World) (l : Nat) (o : Obj) {O : Nat → Prop} (hl : O l) : Only O A (A.putObj l o) ∧ (A.putObj l o).heap.size = A.heap.size := ⟨Only.putObj hl A o, by simp⟩

/-- THE LAW OF 'for x := range g { .. }' over such an iterator. -/
theorem wp_range {α : Type} {ec : α → Array Value} {P : Program} {g : Operand} {ps : Array Tmp} {assign body : Code} {Q : Exit → Act → World → Prop} {a : Act} {w : World}
    {gf : Nat} {lb : Array Value} (hg : a.eval g = .func (.func gf) #[] lb) (eg : ∀ args w, (callFunc gf args).run P w = .ok (.enter gf args) w)
    {xs : List α} {R : Nat → Prop} {w0 : World} (hit : Iter ec P gf lb xs R w0) (hR : ∀ k, R k → k < w0.heap.size ∧ w.heap[k]? = w0.heap[k]?) (hsz : w0.heap.size ≤ w.heap.size) (hps : ∀ x, ps.size = (ec x).size)
    (I : List α → (Nat → Prop) → World → Prop) (Ix : Code → List α → (Nat → Prop) → World → Prop) (hI : Stable I) (hIx : ∀ c, Stable (Ix c)) (h0 : I [] (fun _ => False) w)
    (hround : ∀ (l : Nat) (pre : List α) (x : α) (O : Nat → Prop) (A : World), pre ++ [x] <+: xs → Within w O A → O l → I pre O A →
      assign.wpIn (Fence.wide.inRound l) 0 P (Exit.then (fun a' A' => Only (Not O R) A A' ∧ ∀ A'', Only O A' A'' → A''.heap.size = A'.heap.size →
        body.wpIn (Fence.wide.inRound l) 0 P (roundEnd R I Ix (pre ++ [x]) O A'') a' A'') (fun _ _ _ => False))
        { tmps := (ps.zip (ec x)).foldl (fun t (p, v) => t.setIfInBounds p v) a.tmps, defers := [] } A)
    (hdone : ∀ (D : Nat) (O : Nat → Prop) (B : World), Within w O B → O D → B.heap[D]? = some (.deferred (some [])) → I xs O B → Q .normal { a with defers := { target := .collected D, args := #[] } :: a.defers } B)
    (hstop : ∀ (D : Nat) (c : Code) (pre : List α) (O : Nat → Prop) (B : World), Within w O B → O D → B.heap[D]? = some (.deferred (some [])) → pre <+: xs → Ix c pre O B → c.wpIn Fence.wide 0 P Q { a with defers := { target := .collected D, args := #[] } :: a.defers } B) :
    (Code.rangeFunc g ps assign body).wpIn Fence.wide 0 P Q a w := by
  refine wpIn_rangeFunc ?_
  intro fn hfn
  rw [show Fence.wide.round = none from rfl]
  obtain ⟨rec, hrec⟩ : ∃ rec : LoopState → Option Code → Loop, rec = fun st pe => { state := st, pending := pe, fn, tmps := a.tmps, params := ps, assign, body, defers := w.heap.size } := ⟨_, rfl⟩
  obtain ⟨W1, hW1⟩ : ∃ W1, (w.alloc (.deferred (some []))).alloc (.loop (rec .ready none)) = W1 := ⟨_, rfl⟩
  have hL1 : W1.heap[w.heap.size + 1]? = some (.loop (rec .ready none)) := by
    rw [← hW1]; have := World.alloc_heap_new (w.alloc (.deferred (some []))) (.loop (rec .ready none)); rwa [World.size_alloc] at this
  have hK1 : W1.heap[w.heap.size]? = some (.deferred (some [])) := by
    rw [← hW1]; exact (Below.heap_alloc _ _ _ (by simp)).trans (World.alloc_heap_new w _)
  have hs1 : W1.heap.size = w.heap.size + 2 := by rw [← hW1]; simp
  have ho1 : Only (fun _ => False) w W1 := by rw [← hW1]; exact (Only.alloc _ _ _).trans (Only.alloc _ _ _)
  -- the blocks of the statement itself
  obtain ⟨E, hE⟩ : ∃ E : (Nat → Prop) → Nat → Prop, ∀ O k, E O k ↔ (O k ∨ k = w.heap.size ∨ k = w.heap.size + 1) := ⟨fun O k => O k ∨ k = w.heap.size ∨ k = w.heap.size + 1, fun _ _ => Iff.rfl⟩
  have hEO : ∀ O k, O k → E O k := fun O k h => (hE O k).2 (.inl h)
  have hED : ∀ O, E O w.heap.size := fun O => (hE O _).2 (.inr (.inl rfl))
  have hEl : ∀ O, E O (w.heap.size + 1) := fun O => (hE O _).2 (.inr (.inr rfl))
  have hEW : ∀ {O A}, Within W1 O A → Within w (E O) A := fun {O A} h => ⟨by have := h.1; omega, fun k hk => by
    have h1 := h.1
    rcases (hE O k).1 hk with h' | h' | h'
    · have := h.2 k h'; omega
    · omega
    · omega⟩
  have stab : ∀ {β : Type} {K : β → (Nat → Prop) → World → Prop}, Stable K → ∀ {s : β} {O O' : Nat → Prop} {A B : World}, K s (E O) A → Only (E O) A B → (∀ k, O' k → O k ∨ (A.heap.size ≤ k ∧ k < B.heap.size)) → K s (E O') B := by
    intro β K hK s O O' A B hs ho h2
    refine hK s (E O) (E O') A B hs ho (fun k hk => ?_)
    rcases (hE O' k).1 hk with h' | h'
    · rcases h2 k h' with h3 | h3
      · exact .inl (hEO O k h3)
      · exact .inr h3
    · exact .inl ((hE O k).2 (.inr h'))
  have hI1 : I [] (E fun _ => False) W1 := by
    refine hI [] _ _ w W1 h0 ho1 (fun k hk => .inr ?_)
    rcases (hE _ k).1 hk with h' | h' | h'
    · exact h'.elim
    · omega
    · omega
  refine ⟨w.heap.size + 1, [{ target := .collected w.heap.size, args := #[] }], W1, { target := .fn (.func gf) lb, args := #[.func (.yield (w.heap.size + 1)) #[] #[]] }, W1, gf,
    #[.func (.yield (w.heap.size + 1)) #[] #[]] ++ lb, W1, ?_, ?_, ?_, ?_, fun h => by simp [Fence.wide] at h, ?_⟩
  · rw [← hW1, hrec]; exact run_enterLoop_outer _ _ _ _ _
  · simp only [resolve, hg]
    simp [go_sem]
  · intro f' hf'; exact trivial
  · simp [invoke, go_sem, eg]
  · refine (hit (w.heap.size + 1)
      (fun pre O A => (I pre (E O) A ∧ A.heap[w.heap.size + 1]? = some (.loop (rec .ready none)) ∧ A.heap[w.heap.size]? = some (.deferred (some []))) ∧ Within W1 O A)
      (fun pre O A => (∃ c, Ix c pre (E O) A ∧ A.heap[w.heap.size + 1]? = some (.loop (rec .done (some c))) ∧ A.heap[w.heap.size]? = some (.deferred (some []))) ∧ Within W1 O A)
      W1 (fun k hk => ?_) (by omega) ?_ ?_ ?_ ⟨⟨hI1, hL1, hK1⟩, by omega, fun k hk => hk.elim⟩).mono ?_
    · obtain ⟨h1, h2⟩ := hR k hk
      exact (ho1.block k (by omega) (fun h => h)).trans h2
    · rintro pre O O' A B ⟨⟨hi, hl, hk⟩, hw⟩ ho h2
      refine ⟨⟨stab hI hi (ho.mono (hEO O)) h2, ho.heap hl (fun h => ?_), ho.heap hk (fun h => ?_)⟩, by have := hw.1; have := ho.size; omega, fun k hk' => ?_⟩
      · have := (hw.2 _ h).1; omega
      · have := (hw.2 _ h).1; omega
      · have h3 := hw.1
        have h4 := ho.size
        rcases h2 k hk' with h' | h'
        · have := hw.2 k h'; omega
        · omega
    · rintro pre O O' A B ⟨⟨c, hi, hl, hk⟩, hw⟩ ho h2
      refine ⟨⟨c, stab (hIx c) hi (ho.mono (hEO O)) h2, ho.heap hl (fun h => ?_), ho.heap hk (fun h => ?_)⟩, by have := hw.1; have := ho.size; omega, fun k hk' => ?_⟩
      · have := (hw.2 _ h).1; omega
      · have := (hw.2 _ h).1; omega
      · have h3 := hw.1
        have h4 := ho.size
        rcases h2 k hk' with h' | h'
        · have := hw.2 k h'; omega
        · omega
    · -- ONE ROUND
      rintro pre x O A hpx hw ⟨⟨hi, hl, hk⟩, _⟩
      have hy := run_yield (P := P) (args := ec x) hl (by rw [hrec]; simp [hps x])
      rw [hrec] at hy
      refine ⟨fn, _, assign, body, hy, roundIn_of_wpIn hfn (wpIn_mono (hround _ pre x (E O) A hpx (hEW hw) (hEl O) hi) ?_)⟩
      clear hy
      rintro e a' A' hq
      cases e with
      | normal =>
        obtain ⟨hoA, hbody⟩ := hq
        have hlA := hoA.heap hl (fun h => h.1 (hEl O))
        have hkA := hoA.heap hk (fun h => h.1 (hED O))
        have hsA := hoA.size
        have hw1 := hw.1
        refine ⟨_, run_beginRound hlA (by rw [hrec]), ?_⟩
        have hlt : w.heap.size + 1 < A'.heap.size := by omega
        have hput := setPut (P := P) A' (w.heap.size + 1) (.loop { rec .ready none with state := .busy }) (hEl O)
        have hl2 : (A'.putObj (w.heap.size + 1) (.loop { rec .ready none with state := .busy })).heap[w.heap.size + 1]? = some (.loop { rec .ready none with state := .busy }) := World.putObj_heap_same hlt
        have hk2 : (A'.putObj (w.heap.size + 1) (.loop { rec .ready none with state := .busy })).heap[w.heap.size]? = some (.deferred (some [])) := (World.putObj_heap_other (by omega)).trans hkA
        have hp3 : Only (fun k => k = w.heap.size + 1) A' (A'.putObj (w.heap.size + 1) (.loop { rec .ready none with state := .busy })) := Only.putObj (O := fun k => k = w.heap.size + 1) rfl _ _
        generalize (A'.putObj (w.heap.size + 1) (.loop { rec .ready none with state := .busy })) = A2 at hput hl2 hk2 hp3
        have hR1 : ∀ k, R k → k < w.heap.size := fun k hk => by have := (hR k hk).1; omega
        refine wpIn_mono (hbody A2 hput.1 hput.2) ?_
        have fin : ∀ (jump : Option Code) (B : World), Only (Not (E O) R) A2 B →
            (Instr.endRound (w.heap.size + 1) jump).run P B = .ok (.bool jump.isNone) (B.putObj (w.heap.size + 1) (.loop (rec (if jump.isNone then .ready else .done) jump))) ∧
            Only (Not O R) A (B.putObj (w.heap.size + 1) (.loop (rec (if jump.isNone then .ready else .done) jump))) ∧
            (B.putObj (w.heap.size + 1) (.loop (rec (if jump.isNone then .ready else .done) jump))).heap[w.heap.size + 1]? = some (.loop (rec (if jump.isNone then .ready else .done) jump)) ∧
            (B.putObj (w.heap.size + 1) (.loop (rec (if jump.isNone then .ready else .done) jump))).heap[w.heap.size]? = some (.deferred (some [])) ∧
            Within W1 O (B.putObj (w.heap.size + 1) (.loop (rec (if jump.isNone then .ready else .done) jump))) := fun jump B hoB => by
          have hlB := hoB.heap hl2 (fun h => h.1 (hEl O))
          have hkB := hoB.heap hk2 (fun h => h.1 (hED O))
          have hsB := hoB.size
          have h2 := hput.2
          have := run_endRound (P := P) jump hlB
          rw [hrec] at this ⊢
          have nl : Not O R (w.heap.size + 1) := ⟨fun h => by have := (hw.2 _ h).1; omega, fun h => by have := hR1 _ h; omega⟩
          refine ⟨this, ?_, World.putObj_heap_same (by omega), (World.putObj_heap_other (by omega)).trans hkB, by simp; omega, fun k hk => by have := hw.2 k hk; simp; omega⟩
          have q1 : Only (Not O R) A A' := hoA.mono (fun k h => ⟨fun h' => h.1 (hEO O k h'), h.2⟩)
          have q2 : Only (Not O R) A A2 := q1.trans (hp3.mono (fun k h => by rw [h]; exact nl))
          have q3 : Only (Not O R) A2 B := hoB.mono (fun k h => ⟨fun h' => h.1 (hEO O k h'), h.2⟩)
          exact (q2.trans q3).trans (Only.putObj nl _ _)
        rintro e a3 B hp
        cases e with
        | normal =>
          obtain ⟨hoB, hiB⟩ := hp
          obtain ⟨hr, hoA', hl4, hk4, hwB⟩ := fin none B hoB
          exact ⟨_, _, hr, hoA', .inl ⟨rfl, ⟨stab hI hiB (Only.putObj (hEl O) _ _) (fun _ h => .inl h), hl4, hk4⟩, hwB⟩⟩
        | ret =>
          obtain ⟨hoB, hiB⟩ := hp
          obtain ⟨hr, hoA', hl4, hk4, hwB⟩ := fin (some .ret) B hoB
          exact ⟨_, _, hr, hoA', .inr ⟨rfl, ⟨.ret, stab (hIx _) hiB (Only.putObj (hEl O) _ _) (fun _ h => .inl h), hl4, hk4⟩, hwB⟩⟩
        | exit id =>
          obtain ⟨hoB, hiB⟩ := hp
          obtain ⟨hr, hoA', hl4, hk4, hwB⟩ := fin (some (.exit id)) B hoB
          exact ⟨_, _, hr, hoA', .inr ⟨rfl, ⟨.exit id, stab (hIx _) hiB (Only.putObj (hEl O) _ _) (fun _ h => .inl h), hl4, hk4⟩, hwB⟩⟩
        | goto t =>
          obtain ⟨hoB, hiB⟩ := hp
          obtain ⟨hr, hoA', hl4, hk4, hwB⟩ := fin (some (.goto t)) B hoB
          exact ⟨_, _, hr, hoA', .inr ⟨rfl, ⟨.goto t, stab (hIx _) hiB (Only.putObj (hEl O) _ _) (fun _ h => .inl h), hl4, hk4⟩, hwB⟩⟩
        | panic ch => exact hp.elim
        | outgrown => exact hp.elim
      | ret => exact hq.elim
      | exit id => exact hq.elim
      | goto t => exact hq.elim
      | panic ch => exact hq.elim
      | outgrown => exact hq.elim
    · -- BEHIND THE ITERATOR
      rintro e B ⟨⟨v, rfl⟩, O, hw, (⟨⟨hi, hl, hk⟩, _⟩ | ⟨pre, hpre, ⟨c, hi, hl, hk⟩, _⟩)⟩
      · refine ⟨none, _, by have := run_endLoop (P := P) hl (by rw [hrec]; simp); rw [hrec] at this; exact this, hdone _ (E O) _ ?_ (hED O) ((World.putObj_heap_other (by omega)).trans hk) (stab hI hi (Only.putObj (hEl O) _ _) (fun _ h => .inl h))⟩
        have := hEW hw
        exact ⟨by simpa using this.1, by simpa using this.2⟩
      · refine ⟨some c, _, by have := run_endLoop (P := P) hl (by rw [hrec]; simp); rw [hrec] at this; exact this, hstop _ c pre (E O) _ ?_ (hED O) ((World.putObj_heap_other (by omega)).trans hk) hpre (stab (hIx c) hi (Only.putObj (hEl O) _ _) (fun _ h => .inl h))⟩
        have := hEW hw
        exact ⟨by simpa using this.1, by simpa using this.2⟩
end Go.Proofs.YtoblmhpjendbfaaGreatDoor.It
namespace Go.Proofs.YtoblmhpjendbfaaGreatDoor.Fm
set_option maxRecDepth 20000
open Go.RowKit Vm
set_option linter.unusedVariables false
set_option linter.unusedSimpArgs false

/-- A slice's value. -/
structure Sl where
  a : Option Addr
  n : Nat
  c : Nat
/-- A frame; its texts as bytes, its Set as the value of a slice. -/
structure Frm where
  kind : Int
  id : Int
  off : Int
  max : Int
  code : Int
  seq : Int
  prior : Int
  delay : Int
  fin : Bool
  data : List UInt8
  cid : List UInt8
  token : List UInt8
  set : Sl
end Go.Proofs.YtoblmhpjendbfaaGreatDoor.Fm
