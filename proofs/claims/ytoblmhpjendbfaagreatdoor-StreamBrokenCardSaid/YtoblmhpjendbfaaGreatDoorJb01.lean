/- Short names for what the walks of drawn regions say a thousand times. · A range over an iterator that keeps memory of its own: the contract of an iterator, with the blocks that are its own, and the law of the statement. · The walks of layer 3: none, walk, and walk's iterator. -/
import Derived.OrdersHeld
import Derived.KernelRfl
import Derived.Deep.RegionHeld
import Derived.Lib.Hide
import Derived.RangeFuncNested
import Derived.RangeFuncBound
import Derived.RangeFuncLeaves
import Derived.WalkKit
import Derived.Test.YtoblmhpjendbfaaGreatDoorProg
import Derived.Shelf.Abstract
import Derived.Shelf.RegionOpen
import Derived.OwnWalkIn
import Derived.TacticsInMore
import Derived.LoopNIn
import Derived.LoopIn
import Derived.Outline
namespace Go.Proofs.YtoblmhpjendbfaaGreatDoor.Tk
open Go

theorem J1 {α : Type _} {xs : List α} {i : Nat} (h : i < xs.toArray.size) : xs.toArray[i]'h = xs[i]'(by simpa using h) := rfl
theorem J2 {α : Type _} {a : α} {ls : List α} (h : 0 < (a :: ls).length) : (a :: ls)[0]'h = a := rfl
theorem J3 {α : Type _} {a : α} {ls : List α} {i : Nat} (h : i + 1 < (a :: ls).length) : (a :: ls)[i + 1]'h = ls[i]'(by simpa using h) := rfl
theorem J4 {α : Type _} {l : List α} {i : Nat} {a : α} : l.toArray.setIfInBounds i a = (l.set i a).toArray := List.setIfInBounds_toArray ..
theorem J5 {α : Type _} {x : α} {xs : List α} {a : α} : (x :: xs).set 0 a = a :: xs := rfl
theorem J6 {α : Type _} {x : α} {xs : List α} {n : Nat} {a : α} : (x :: xs).set (n + 1) a = x :: xs.set n a := rfl
theorem J7 {α : Type _} {l : List α} {i : Nat} : l.toArray[i]? = l[i]? := List.getElem?_toArray ..
theorem J8 {α : Type _} {a : α} {l : List α} {i : Nat} : (a :: l)[i + 1]? = l[i]? := rfl
theorem J9 {α : Type _} {a : α} {l : List α} : (a :: l)[0]? = some a := rfl

theorem zqa {P : Program} {md : Region.Mode} {ops : Array Oper} {Q : Exit → Act → World → Prop} {S : World → Prop} (i : Nat) {oi : Oper} {fuel : Nat} {listed : Array Bool} {a : Act} {w : World}
    (hi : ops[i]? = some oi) (v : Value) (hy : ∀ w, S w → (execOp a.eval oi).run P w = .ok (.value v) w) (h : wpAnyH P md ops Q S fuel (listed.setIfInBounds i true) (a.put oi.dst v) w)
    (hs : Region.noSelect ops = true := by kernel_rfl) (hf : Region.free md ops listed i = true := by kernel_rfl) (hr : (Region.ready md ops listed).contains i = true := by kernel_rfl)
    (hQ : ∀ c a w, Q (.panic c) (a.put oi.dst v) w → Q (.panic c) a w := by exact fun _ _ _ h => h)
    (hx : Region.wanted oi (yielded ops a.tmps) = true := by rfl) (hS : S w := by assumption) : wpAnyH P md ops Q S (fuel + 1) listed a w :=
  wpAnyH_take hi hs hf hr hQ (Or.inl ⟨hx, hy⟩) hS h
theorem zqb {P : Program} {md : Region.Mode} {ops : Array Oper} {Q : Exit → Act → World → Prop} {S : World → Prop} {fuel : Nat} {listed : Array Bool} {a : Act} {w : World} (L : List Nat) {i : Nat} {oi : Oper}
    (_hl : L.find? (fun i => !listed.getD i true) = some i) (hi : ops[i]? = some oi) (v : Value) (hy : ∀ w, S w → (execOp a.eval oi).run P w = .ok (.value v) w) (h : wpAnyH P md ops Q S fuel (listed.setIfInBounds i true) (a.put oi.dst v) w)
    (hs : Region.noSelect ops = true := by kernel_rfl) (hf : Region.free md ops listed i = true := by kernel_rfl) (hr : (Region.ready md ops listed).contains i = true := by kernel_rfl)
    (hQ : ∀ c a w, Q (.panic c) (a.put oi.dst v) w → Q (.panic c) a w := by exact fun _ _ _ h => h)
    (hx : Region.wanted oi (yielded ops a.tmps) = true := by rfl) (hS : S w := by assumption) : wpAnyH P md ops Q S (fuel + 1) listed a w :=
  wpAnyH_take hi hs hf hr hQ (Or.inl ⟨hx, hy⟩) hS h

theorem zqc {P : Program} {md : Region.Mode} {ops : Array Oper} {Q : Exit → Act → World → Prop} {S : World → Prop} {fuel : Nat} {listed : Array Bool} {a : Act} {w : World} (i : Nat) {oi : Oper} (hi : ops[i]? = some oi) (h : wpAnyH P md ops Q S fuel (listed.setIfInBounds i true) (a.put oi.dst undef) w)
    (hs : Region.noSelect ops = true := by kernel_rfl) (hf : Region.free md ops listed i = true := by kernel_rfl) (hr : (Region.ready md ops listed).contains i = true := by kernel_rfl)
    (hQ : ∀ c a w, Q (.panic c) (a.put oi.dst undef) w → Q (.panic c) a w := by exact fun _ _ _ h => h)
    (hx : Region.wanted oi (yielded ops a.tmps) = false := by rfl) (hS : S w := by assumption) : wpAnyH P md ops Q S (fuel + 1) listed a w :=
  wpAnyH_take hi hs hf hr hQ (Or.inr ⟨hx, rfl⟩) hS h

theorem zqf {P : Program} {md : Region.Mode} {ops : Array Oper} {Q : Exit → Act → World → Prop} {S : World → Prop} {fuel : Nat} {listed : Array Bool} {a : Act} {w : World} (rs : List Nat) (h : AllReadyH P md ops Q S fuel listed a w rs) (hr : Region.ready md ops listed = rs := by kernel_rfl) (hne : rs ≠ [] := by simp) : wpAnyH P md ops Q S (fuel + 1) listed a w :=
  wpAnyH_ready hr hne h

theorem zqe {P : Program} {md : Region.Mode} {ops : Array Oper} {Q : Exit → Act → World → Prop} {S : World → Prop} {fuel : Nat} {listed : Array Bool} {a : Act} {w : World} (h : Q .normal a w) (hr : Region.ready md ops listed = [] := by kernel_rfl) : wpAnyH P md ops Q S fuel listed a w := wpAnyH_done hr h _

theorem zh {p : Prop} (h : p) : RowKit.Hid p := h
theorem zle {n : Nat} : n ≤ n := Nat.le_refl n
end Go.Proofs.YtoblmhpjendbfaaGreatDoor.Tk
namespace Go.Proofs.YtoblmhpjendbfaaGreatDoor.Rg
set_option maxRecDepth 20000
open Go.RowKit
set_option linter.unusedVariables false

/-- A range: from, to. -/
abbrev Ran := Int × Int
def enc (x : Ran) : Value := .agg #[.int .u64 x.1, .int .u64 x.2]

/-- Blocks of O may have turned, others not; new ones may have come. -/
structure Only (O : Nat → Prop) (A B : World) : Prop where
  os : B.os = A.os
  tape : B.tape = A.tape
  output : B.output = A.output
  size : A.heap.size ≤ B.heap.size
  block : ∀ k, k < A.heap.size → ¬ O k → B.heap[k]? = A.heap[k]?

theorem Only.refl (O : Nat → Prop) (A : World) : Only O A A := ⟨rfl, rfl, rfl, Nat.le_refl _, fun _ _ _ => rfl⟩
theorem Only.mono {O O' : Nat → Prop} {A B : World} (h : Only O A B) (ho : ∀ k, O k → O' k) : Only O' A B := ⟨h.os, h.tape, h.output, h.size, fun k hk hn => h.block k hk (fun h' => hn (ho k h'))⟩
theorem Only.trans {O : Nat → Prop} {A B C : World} (h : Only O A B) (k : Only O B C) : Only O A C :=
  ⟨k.os.trans h.os, k.tape.trans h.tape, k.output.trans h.output, Nat.le_trans h.size k.size, fun i hi hn => (k.block i (Nat.lt_of_lt_of_le hi h.size) hn).trans (h.block i hi hn)⟩
/-- What turns in the second step is new, or may turn. -/
theorem Only.trans' {O O' : Nat → Prop} {A B C : World} (h : Only O A B) (k : Only O' B C) (ho : ∀ i, i < A.heap.size → O' i → O i) : Only O A C :=
  ⟨k.os.trans h.os, k.tape.trans h.tape, k.output.trans h.output, Nat.le_trans h.size k.size, fun i hi hn => (k.block i (Nat.lt_of_lt_of_le hi h.size) (fun h' => hn (ho i hi h'))).trans (h.block i hi hn)⟩
theorem Only.alloc (O : Nat → Prop) (A : World) (o : Obj) : Only O A (A.alloc o) := ⟨rfl, rfl, rfl, by simp, fun k hk _ => Below.heap_alloc A o k hk⟩
theorem Only.putObj {O : Nat → Prop} {l : Nat} (hl : O l) (A : World) (o : Obj) : Only O A (A.putObj l o) :=
  ⟨rfl, rfl, rfl, by simp, fun k hk hn => World.putObj_heap_other (fun e => hn (by rw [e]; exact hl))⟩
theorem Only.setCell {O : Nat → Prop} {p : Addr} (hl : O p.block) (A : World) (v : Value) : Only O A (A.setCell p v) :=
  ⟨rfl, rfl, rfl, by simp [World.setCell], fun k hk hn => Below.heap_setCell A p v k (fun e => hn (by rw [e]; exact hl))⟩
theorem Only.drew (O : Nat → Prop) (A : World) : Only O A A.drew := ⟨rfl, rfl, rfl, Nat.le_refl _, fun _ _ _ => rfl⟩
theorem Only.of_below {A B : World} {n : Nat} (h : Below n A B) {O : Nat → Prop} (ho : ∀ k, k < A.heap.size → n ≤ k → O k) : Only O A B :=
  ⟨h.os, h.tape, h.output, h.size, fun k hk hn => h.block k (Nat.lt_of_not_le (fun e => hn (ho k hk e)))⟩
theorem Only.of_all {A B : World} (h : Below A.heap.size A B) (O : Nat → Prop) : Only O A B :=
  ⟨h.os, h.tape, h.output, h.size, fun k hk _ => h.block k hk⟩
theorem Only.of_grown {A B : World} {row : Option Nat} (h : A.grownBy B row) {O : Nat → Prop} (ho : ∀ k, row = some k → O k) : Only O A B :=
  ⟨h.os, h.tape, h.output, h.size, fun k hk hn => h.block k hk (fun e => hn (ho k e.symm))⟩
theorem Only.below {O : Nat → Prop} {A B : World} {n : Nat} (h : Only O A B) (hn : n ≤ A.heap.size) (ho : ∀ k, O k → n ≤ k) : Below n A B :=
  ⟨h.os, h.tape, h.output, h.size, fun k hk => h.block k (Nat.lt_of_lt_of_le hk hn) (fun e => by have := ho k e; omega)⟩
theorem Only.heap {O : Nat → Prop} {A B : World} (h : Only O A B) {k : Nat} {o : Obj} (hk : A.heap[k]? = some o) (hn : ¬ O k) : B.heap[k]? = some o :=
  (h.block k (Array.getElem?_eq_some_iff.1 hk).1 hn).trans hk
theorem Only.cell {O : Nat → Prop} {A B : World} (h : Only O A B) {a : Addr} {v : Value} (hv : A.cell? a = some v) (hn : ¬ O a.block) : B.cell? a = some v :=
  (World.cell?_of_block (h.block a.block (World.block_lt_of_cell? A a hv) hn)).trans hv

/-- What is said of a world and of the blocks that another one owns, and stands whatever that one does with these, and with new ones. -/
def Stable {β : Type} (I : β → (Nat → Prop) → World → Prop) : Prop :=
  ∀ s (O O' : Nat → Prop) A B, I s O A → Only O A B → (∀ k, O' k → O k ∨ (A.heap.size ≤ k ∧ k < B.heap.size)) → I s O' B

/-- The blocks of O came since W. -/
def Within (W : World) (O : Nat → Prop) (A : World) : Prop := W.heap.size ≤ A.heap.size ∧ ∀ k, O k → W.heap.size ≤ k ∧ k < A.heap.size

/-- What a round, or a call of yield, leaves alone: the blocks of O, and of R. -/
abbrev Not (O R : Nat → Prop) : Nat → Prop := fun k => ¬ O k ∧ ¬ R k

/-- AN ITERATOR: it hands on xs, one by one, till it is told to stop; it reads blocks of R, and has blocks of its own. -/
def Iter (P : Program) (g : Nat) (lb : Array Value) (xs : List Ran) (R : Nat → Prop) (w : World) : Prop :=
  ∀ (l : Nat) (J Jx : List Ran → (Nat → Prop) → World → Prop) (W : World),
    (∀ k, R k → W.heap[k]? = w.heap[k]?) → w.heap.size ≤ W.heap.size → Stable J → Stable Jx →
    (∀ pre x O A, pre ++ [x] <+: xs → Within W O A → J pre O A →
      YieldAt Fence.wide 0 P l #[enc x] A fun e B => Only (Not O R) A B ∧ ((e = .returned (.bool true) ∧ J (pre ++ [x]) O B) ∨ (e = .returned (.bool false) ∧ Jx (pre ++ [x]) O B))) →
    J [] (fun _ => False) W →
    CallsIn Fence.wide 0 P g (#[.func (.yield l) #[] #[]] ++ lb) W fun e B => (∃ v, e = .returned v) ∧ ∃ O, Within W O B ∧ (J xs O B ∨ ∃ pre, pre <+: xs ∧ Jx pre O B)

/-- How the body of a round may be left. -/
def roundEnd (R : Nat → Prop) (I : List Ran → (Nat → Prop) → World → Prop) (Ix : Code → List Ran → (Nat → Prop) → World → Prop) (xs : List Ran) (O : Nat → Prop) (A : World) : Exit → Act → World → Prop
  | .normal, _, B => Only (Not O R) A B ∧ I xs O B
  | .ret, _, B => Only (Not O R) A B ∧ Ix .ret xs O B
  | .exit id, _, B => Only (Not O R) A B ∧ Ix (.exit id) xs O B
  | .goto t, _, B => Only (Not O R) A B ∧ Ix (.goto t) xs O B
  | .panic _, _, _ => False
  | .outgrown, _, _ => False

theorem setPut {P : Program} (A : World) (l : Nat) (o : Obj) {O : Nat → Prop} (hl : O l) : Only O A (A.putObj l o) ∧ (A.putObj l o).heap.size = A.heap.size := ⟨Only.putObj hl A o, by simp⟩

/-- THE LAW OF 'for x := range g { .. }' over such an iterator. -/
theorem wp_range {P : Program} {g : Operand} {ps : Array Tmp} {assign body : Code} {Q : Exit → Act → World → Prop} {a : Act} {w : World}
    {gf : Nat} {lb : Array Value} (hg : a.eval g = .func (.func gf) #[] lb) (eg : ∀ args w, (callFunc gf args).run P w = .ok (.enter gf args) w)
    {xs : List Ran} {R : Nat → Prop} {w0 : World} (hit : Iter P gf lb xs R w0) (hR : ∀ k, R k → k < w0.heap.size ∧ w.heap[k]? = w0.heap[k]?) (hsz : w0.heap.size ≤ w.heap.size) (hps : ps.size = 1)
    (I : List Ran → (Nat → Prop) → World → Prop) (Ix : Code → List Ran → (Nat → Prop) → World → Prop) (hI : Stable I) (hIx : ∀ c, Stable (Ix c)) (h0 : I [] (fun _ => False) w)
    (hround : ∀ (l : Nat) (pre : List Ran) (x : Ran) (O : Nat → Prop) (A : World), pre ++ [x] <+: xs → Within w O A → O l → I pre O A →
      assign.wpIn (Fence.wide.inRound l) 0 P (Exit.then (fun a' A' => Only (Not O R) A A' ∧ ∀ A'', Only O A' A'' → A''.heap.size = A'.heap.size →
        body.wpIn (Fence.wide.inRound l) 0 P (roundEnd R I Ix (pre ++ [x]) O A'') a' A'') (fun _ _ _ => False))
        { tmps := (ps.zip #[enc x]).foldl (fun t (p, v) => t.setIfInBounds p v) a.tmps, defers := [] } A)
    (hdone : ∀ (D : Nat) (O : Nat → Prop) (B : World), Within w O B → O D → B.heap[D]? = some (.deferred (some [])) → I xs O B → Q .normal { a with defers := { target := .collected D, args := #[] } :: a.defers } B)
    (hstop : ∀ (D : Nat) (c : Code) (pre : List Ran) (O : Nat → Prop) (B : World), Within w O B → O D → B.heap[D]? = some (.deferred (some [])) → pre <+: xs → Ix c pre O B → c.wpIn Fence.wide 0 P Q { a with defers := { target := .collected D, args := #[] } :: a.defers } B) :
    (Code.rangeFunc g ps assign body).wpIn Fence.wide 0 P Q a w := by
  refine wpIn_rangeFunc ?_
  intro fn hfn
  rw [show Fence.wide.round = none from rfl]
  obtain ⟨rec, hrec⟩ : ∃ rec : LoopState → Option Code → Loop, rec = fun st pe => { state := st, pending := pe, fn, tmps := a.tmps, params := ps, assign, body, defers := w.heap.size } := ⟨_, rfl⟩
  obtain ⟨W1, hW1⟩ : ∃ W1, (w.alloc (.deferred (some []))).alloc (.loop (rec .ready none)) = W1 := ⟨_, rfl⟩
  have hL1 : W1.heap[w.heap.size + 1]? = some (.loop (rec .ready none)) := by
    rw [← hW1]; have := World.alloc_heap_new (w.alloc (.deferred (some []))) (.loop (rec .ready none)); rwa [World.size_alloc] at this
  have hK1 : W1.heap[w.heap.size]? = some (.deferred (some [])) := by
    rw [← hW1]; exact (Below.heap_alloc _ _ _ (by simp)).trans (World.alloc_heap_new w _)
  have hs1 : W1.heap.size = w.heap.size + 2 := by rw [← hW1]; simp
  have ho1 : Only (fun _ => False) w W1 := by rw [← hW1]; exact (Only.alloc _ _ _).trans (Only.alloc _ _ _)
  -- the blocks of the statement itself
  obtain ⟨E, hE⟩ : ∃ E : (Nat → Prop) → Nat → Prop, ∀ O k, E O k ↔ (O k ∨ k = w.heap.size ∨ k = w.heap.size + 1) := ⟨fun O k => O k ∨ k = w.heap.size ∨ k = w.heap.size + 1, fun _ _ => Iff.rfl⟩
  have hEO : ∀ O k, O k → E O k := fun O k h => (hE O k).2 (.inl h)
  have hED : ∀ O, E O w.heap.size := fun O => (hE O _).2 (.inr (.inl rfl))
  have hEl : ∀ O, E O (w.heap.size + 1) := fun O => (hE O _).2 (.inr (.inr rfl))
  have hEW : ∀ {O A}, Within W1 O A → Within w (E O) A := fun {O A} h => ⟨by have := h.1; omega, fun k hk => by
    have h1 := h.1
    rcases (hE O k).1 hk with h' | h' | h'
    · have := h.2 k h'; omega
    · omega
    · omega⟩
  have stab : ∀ {β : Type} {K : β → (Nat → Prop) → World → Prop}, Stable K → ∀ {s : β} {O O' : Nat → Prop} {A B : World}, K s (E O) A → Only (E O) A B → (∀ k, O' k → O k ∨ (A.heap.size ≤ k ∧ k < B.heap.size)) → K s (E O') B := by
    intro β K hK s O O' A B hs ho h2
    refine hK s (E O) (E O') A B hs ho (fun k hk => ?_)
    rcases (hE O' k).1 hk with h' | h'
    · rcases h2 k h' with h3 | h3
      · exact .inl (hEO O k h3)
      · exact .inr h3
    · exact .inl ((hE O k).2 (.inr h'))
  have hI1 : I [] (E fun _ => False) W1 := by
    refine hI [] _ _ w W1 h0 ho1 (fun k hk => .inr ?_)
    rcases (hE _ k).1 hk with h' | h' | h'
    · exact h'.elim
    · omega
    · omega
  refine ⟨w.heap.size + 1, [{ target := .collected w.heap.size, args := #[] }], W1, { target := .fn (.func gf) lb, args := #[.func (.yield (w.heap.size + 1)) #[] #[]] }, W1, gf,
    #[.func (.yield (w.heap.size + 1)) #[] #[]] ++ lb, W1, ?_, ?_, ?_, ?_, fun h => by simp [Fence.wide] at h, ?_⟩
  · rw [← hW1, hrec]; exact run_enterLoop_outer _ _ _ _ _
  · simp only [resolve, hg]
    simp [go_sem]
  · intro f' hf'; exact trivial
  · simp [invoke, go_sem, eg]
  · refine (hit (w.heap.size + 1)
      (fun pre O A => (I pre (E O) A ∧ A.heap[w.heap.size + 1]? = some (.loop (rec .ready none)) ∧ A.heap[w.heap.size]? = some (.deferred (some []))) ∧ Within W1 O A)
      (fun pre O A => (∃ c, Ix c pre (E O) A ∧ A.heap[w.heap.size + 1]? = some (.loop (rec .done (some c))) ∧ A.heap[w.heap.size]? = some (.deferred (some []))) ∧ Within W1 O A)
      W1 (fun k hk => ?_) (by omega) ?_ ?_ ?_ ⟨⟨hI1, hL1, hK1⟩, by omega, fun k hk => hk.elim⟩).mono ?_
    · obtain ⟨h1, h2⟩ := hR k hk
      exact (ho1.block k (by omega) (fun h => h)).trans h2
    · rintro pre O O' A B ⟨⟨hi, hl, hk⟩, hw⟩ ho h2
      refine ⟨⟨stab hI hi (ho.mono (hEO O)) h2, ho.heap hl (fun h => ?_), ho.heap hk (fun h => ?_)⟩, by have := hw.1; have := ho.size; omega, fun k hk' => ?_⟩
      · have := (hw.2 _ h).1; omega
      · have := (hw.2 _ h).1; omega
      · have h3 := hw.1
        have h4 := ho.size
        rcases h2 k hk' with h' | h'
        · have := hw.2 k h'; omega
        · omega
    · rintro pre O O' A B ⟨⟨c, hi, hl, hk⟩, hw⟩ ho h2
      refine ⟨⟨c, stab (hIx c) hi (ho.mono (hEO O)) h2, ho.heap hl (fun h => ?_), ho.heap hk (fun h => ?_)⟩, by have := hw.1; have := ho.size; omega, fun k hk' => ?_⟩
      · have := (hw.2 _ h).1; omega
      · have := (hw.2 _ h).1; omega
      · have h3 := hw.1
        have h4 := ho.size
        rcases h2 k hk' with h' | h'
        · have := hw.2 k h'; omega
        · omega
    · -- ONE ROUND
      rintro pre x O A hpx hw ⟨⟨hi, hl, hk⟩, _⟩
      have hy := run_yield (P := P) (args := #[enc x]) hl (by rw [hrec]; simp [hps])
      rw [hrec] at hy
      refine ⟨fn, _, assign, body, hy, roundIn_of_wpIn hfn (wpIn_mono (hround _ pre x (E O) A hpx (hEW hw) (hEl O) hi) ?_)⟩
      clear hy
      rintro e a' A' hq
      cases e with
      | normal =>
        obtain ⟨hoA, hbody⟩ := hq
        have hlA := hoA.heap hl (fun h => h.1 (hEl O))
        have hkA := hoA.heap hk (fun h => h.1 (hED O))
        have hsA := hoA.size
        have hw1 := hw.1
        refine ⟨_, run_beginRound hlA (by rw [hrec]), ?_⟩
        have hlt : w.heap.size + 1 < A'.heap.size := by omega
        have hput := setPut (P := P) A' (w.heap.size + 1) (.loop { rec .ready none with state := .busy }) (hEl O)
        have hl2 : (A'.putObj (w.heap.size + 1) (.loop { rec .ready none with state := .busy })).heap[w.heap.size + 1]? = some (.loop { rec .ready none with state := .busy }) := World.putObj_heap_same hlt
        have hk2 : (A'.putObj (w.heap.size + 1) (.loop { rec .ready none with state := .busy })).heap[w.heap.size]? = some (.deferred (some [])) := (World.putObj_heap_other (by omega)).trans hkA
        have hp3 : Only (fun k => k = w.heap.size + 1) A' (A'.putObj (w.heap.size + 1) (.loop { rec .ready none with state := .busy })) := Only.putObj (O := fun k => k = w.heap.size + 1) rfl _ _
        generalize (A'.putObj (w.heap.size + 1) (.loop { rec .ready none with state := .busy })) = A2 at hput hl2 hk2 hp3
        have hR1 : ∀ k, R k → k < w.heap.size := fun k hk => by have := (hR k hk).1; omega
        refine wpIn_mono (hbody A2 hput.1 hput.2) ?_
        have fin : ∀ (jump : Option Code) (B : World), Only (Not (E O) R) A2 B →
            (Instr.endRound (w.heap.size + 1) jump).run P B = .ok (.bool jump.isNone) (B.putObj (w.heap.size + 1) (.loop (rec (if jump.isNone then .ready else .done) jump))) ∧
            Only (Not O R) A (B.putObj (w.heap.size + 1) (.loop (rec (if jump.isNone then .ready else .done) jump))) ∧
            (B.putObj (w.heap.size + 1) (.loop (rec (if jump.isNone then .ready else .done) jump))).heap[w.heap.size + 1]? = some (.loop (rec (if jump.isNone then .ready else .done) jump)) ∧
            (B.putObj (w.heap.size + 1) (.loop (rec (if jump.isNone then .ready else .done) jump))).heap[w.heap.size]? = some (.deferred (some [])) ∧
            Within W1 O (B.putObj (w.heap.size + 1) (.loop (rec (if jump.isNone then .ready else .done) jump))) := fun jump B hoB => by
          have hlB := hoB.heap hl2 (fun h => h.1 (hEl O))
          have hkB := hoB.heap hk2 (fun h => h.1 (hED O))
          have hsB := hoB.size
          have h2 := hput.2
          have := run_endRound (P := P) jump hlB
          rw [hrec] at this ⊢
          have nl : Not O R (w.heap.size + 1) := ⟨fun h => by have := (hw.2 _ h).1; omega, fun h => by have := hR1 _ h; omega⟩
          refine ⟨this, ?_, World.putObj_heap_same (by omega), (World.putObj_heap_other (by omega)).trans hkB, by simp; omega, fun k hk => by have := hw.2 k hk; simp; omega⟩
          have q1 : Only (Not O R) A A' := hoA.mono (fun k h => ⟨fun h' => h.1 (hEO O k h'), h.2⟩)
          have q2 : Only (Not O R) A A2 := q1.trans (hp3.mono (fun k h => by rw [h]; exact nl))
          have q3 : Only (Not O R) A2 B := hoB.mono (fun k h => ⟨fun h' => h.1 (hEO O k h'), h.2⟩)
          exact (q2.trans q3).trans (Only.putObj nl _ _)
        rintro e a3 B hp
        cases e with
        | normal =>
          obtain ⟨hoB, hiB⟩ := hp
          obtain ⟨hr, hoA', hl4, hk4, hwB⟩ := fin none B hoB
          exact ⟨_, _, hr, hoA', .inl ⟨rfl, ⟨stab hI hiB (Only.putObj (hEl O) _ _) (fun _ h => .inl h), hl4, hk4⟩, hwB⟩⟩
        | ret =>
          obtain ⟨hoB, hiB⟩ := hp
          obtain ⟨hr, hoA', hl4, hk4, hwB⟩ := fin (some .ret) B hoB
          exact ⟨_, _, hr, hoA', .inr ⟨rfl, ⟨.ret, stab (hIx _) hiB (Only.putObj (hEl O) _ _) (fun _ h => .inl h), hl4, hk4⟩, hwB⟩⟩
        | exit id =>
          obtain ⟨hoB, hiB⟩ := hp
          obtain ⟨hr, hoA', hl4, hk4, hwB⟩ := fin (some (.exit id)) B hoB
          exact ⟨_, _, hr, hoA', .inr ⟨rfl, ⟨.exit id, stab (hIx _) hiB (Only.putObj (hEl O) _ _) (fun _ h => .inl h), hl4, hk4⟩, hwB⟩⟩
        | goto t =>
          obtain ⟨hoB, hiB⟩ := hp
          obtain ⟨hr, hoA', hl4, hk4, hwB⟩ := fin (some (.goto t)) B hoB
          exact ⟨_, _, hr, hoA', .inr ⟨rfl, ⟨.goto t, stab (hIx _) hiB (Only.putObj (hEl O) _ _) (fun _ h => .inl h), hl4, hk4⟩, hwB⟩⟩
        | panic ch => exact hp.elim
        | outgrown => exact hp.elim
      | ret => exact hq.elim
      | exit id => exact hq.elim
      | goto t => exact hq.elim
      | panic ch => exact hq.elim
      | outgrown => exact hq.elim
    · -- BEHIND THE ITERATOR
      rintro e B ⟨⟨v, rfl⟩, O, hw, (⟨⟨hi, hl, hk⟩, _⟩ | ⟨pre, hpre, ⟨c, hi, hl, hk⟩, _⟩)⟩
      · refine ⟨none, _, by have := run_endLoop (P := P) hl (by rw [hrec]; simp); rw [hrec] at this; exact this, hdone _ (E O) _ ?_ (hED O) ((World.putObj_heap_other (by omega)).trans hk) (stab hI hi (Only.putObj (hEl O) _ _) (fun _ h => .inl h))⟩
        have := hEW hw
        exact ⟨by simpa using this.1, by simpa using this.2⟩
      · refine ⟨some c, _, by have := run_endLoop (P := P) hl (by rw [hrec]; simp); rw [hrec] at this; exact this, hstop _ c pre (E O) _ ?_ (hED O) ((World.putObj_heap_other (by omega)).trans hk) hpre (stab (hIx c) hi (Only.putObj (hEl O) _ _) (fun _ h => .inl h))⟩
        have := hEW hw
        exact ⟨by simpa using this.1, by simpa using this.2⟩
end Go.Proofs.YtoblmhpjendbfaaGreatDoor.Rg
namespace Go.Proofs.YtoblmhpjendbfaaGreatDoor.Rg
set_option maxRecDepth 20000
open Go.RowKit Go.Shelf
set_option linter.unusedVariables false

/-- Has it a number? -/
def ok (x : Ran) : Prop := x.1 ≤ x.2
instance (x : Ran) : Decidable (ok x) := inferInstanceAs (Decidable (x.1 ≤ x.2))

/-- A slice that reads as these ranges. -/
def Rd (w : World) (v : Value) (l : List Ran) : Prop :=
  ∃ a cap, v = .slice a l.length cap ∧ l.length ≤ cap ∧ (l ≠ [] → ∃ b off, a = some ⟨b, off, none⟩ ∧
    ∀ i, i < l.length → w.cell? ⟨b, off + i * 2, none⟩ = some (.int .u64 (l.getD i (0, 0)).1) ∧ w.cell? ⟨b, off + i * 2 + 1, none⟩ = some (.int .u64 (l.getD i (0, 0)).2))
/-- The block that it lies in. -/
def Blk (v : Value) (k : Nat) : Prop := match v with | .slice (some a) n _ => 0 < n ∧ a.block = k | _ => False

set_option maxHeartbeats 400000 in
theorem none_any (lo hi : Int) (w : World) : Calls Tryz.prog 195 #[.agg #[.int .u64 lo, .int .u64 hi]] w fun e w' => e = .returned (.bool (decide (hi < lo))) ∧ Below w.heap.size w w' := by
  go_enter Tryz.func195, Tryz.ntmps195
  go_wp2
  go_ret
  exact ⟨rfl, (Below.refl _ _).alloc (Nat.le_refl _) _⟩

set_option maxHeartbeats 400000 in
theorem walk_any (a : Option Addr) (n cap : Nat) (w : World) : Calls Tryz.prog 173 #[.slice a n cap] w fun e w' => e = .returned (.func (.func 199) #[] #[.pointer (some ⟨w.heap.size, 0, none⟩)]) ∧ w' = w.alloc (.cells #[.slice a n cap] 27) := by
  go_enter Tryz.func173, Tryz.ntmps173
  go_wp2
  go_ret
  exact ⟨rfl, rfl⟩

theorem take_succ_getD {α : Type} (l : List α) (d : α) {k : Nat} (h : k < l.length) : l.take (k + 1) = l.take k ++ [l.getD k d] := by
  rw [List.take_succ_eq_append_getElem h]
  simp [List.getD, List.getElem?_eq_getElem h]
theorem filter_take {l : List Ran} {k : Nat} (h : k < l.length) {x : Ran} (hx : l.getD k (0, 0) = x) : (l.take (k + 1)).filter ok = (l.take k).filter ok ++ (if ok x then [x] else []) := by
  rw [take_succ_getD l (0, 0) h, List.filter_append, hx]
  by_cases h : ok x <;> simp [h]
theorem filter_prefix (l : List Ran) (k : Nat) : (l.take k).filter ok <+: l.filter ok := by
  have := (List.take_prefix k l)
  obtain ⟨t, ht⟩ := this
  exact ⟨t.filter ok, by rw [← List.filter_append, ht]⟩
theorem cell_below {A B : World} {n : Nat} (h : Below n A B) {b o : Nat} {v : Value} (hv : A.cell? ⟨b, o, none⟩ = some v) (hb : b < n) : B.cell? ⟨b, o, none⟩ = some v := (h.cell (p := ⟨b, o, none⟩) hb).trans hv

attribute [local go_sem] Oper.semAt_some
set_option maxHeartbeats 1000000 in
theorem walk1_row (Bs b off cap n : Nat) (l : List Ran) (hl : l.length = n) (hn : n ≤ 1000) (lp : Nat) (J Jx : List Ran → (Nat → Prop) → World → Prop) (W : World)
    (hBs : W.cell? ⟨Bs, 0, none⟩ = some (.slice (some ⟨b, off, none⟩) n cap))
    (hc : ∀ i, i < n → W.cell? ⟨b, off + i * 2, none⟩ = some (.int .u64 (l.getD i (0, 0)).1) ∧ W.cell? ⟨b, off + i * 2 + 1, none⟩ = some (.int .u64 (l.getD i (0, 0)).2))
    (hJ : Stable J)
    (hY : ∀ pre x A, pre ++ [x] <+: l.filter ok → W.heap.size ≤ A.heap.size → J pre (fun _ => False) A →
      YieldAt Fence.wide 0 Tryz.prog lp #[enc x] A fun e B => Only (fun k => ¬ (k = Bs ∨ k = b)) A B ∧ ((e = .returned (.bool true) ∧ J (pre ++ [x]) (fun _ => False) B) ∨ (e = .returned (.bool false) ∧ Jx (pre ++ [x]) (fun _ => False) B)))
    (h0 : J [] (fun _ => False) W) :
    CallsIn Fence.wide 0 Tryz.prog 199 #[.func (.yield lp) #[] #[], .pointer (some ⟨Bs, 0, none⟩)] W fun e B => (∃ v, e = .returned v) ∧ W.heap.size ≤ B.heap.size ∧ (J (l.filter ok) (fun _ => False) B ∨ ∃ pre, pre <+: l.filter ok ∧ Jx pre (fun _ => False) B) := by
  refine callsIn_of_wp Tryz.func199 rfl trivial ?_ rfl
  simp only [Tryz.ntmps199, List.size_toArray, List.length_cons, List.length_nil, Nat.reduceAdd, Nat.reduceSub, Array.replicate_succ, Array.replicate_zero, List.push_toArray, List.append_toArray, List.nil_append, List.cons_append]
  have HJ := Lib.hid hJ
  have HY := Lib.hid hY
  have HC := Lib.hid hc
  have H0 := Lib.hid h0
  clear hJ hY hc h0
  gi_wp2
  gi_loopw [7] (fun i wr => ∃ k : Nat, k ≤ n ∧ i = .int .i64 k ∧ W.heap.size ≤ wr.heap.size ∧ wr.heap[b]? = W.heap[b]? ∧ J ((l.take k).filter ok) (fun _ => False) wr)
    (fun i _ => n - (intOf i).toNat)
  case atStart => exact ⟨0, Nat.zero_le _, rfl, Nat.le_refl _, rfl, by simpa using H0.out⟩
  case round =>
    obtain ⟨k, hk, rfl, hsz, hkeep, hj⟩ := hrel
    have HJr := Lib.hid hj
    have HK := Lib.hid hkeep
    clear hj hkeep
    by_cases hlt : k < n
    · have hcx := HC.out k hlt
      have hc1 : wr.cell? ⟨b, off + k * 2, none⟩ = some (.int .u64 (l.getD k (0, 0)).1) := (World.cell?_of_block (a := ⟨b, off + k * 2, none⟩) HK.out).trans hcx.1
      have hc2 : wr.cell? ⟨b, off + k * 2 + 1, none⟩ = some (.int .u64 (l.getD k (0, 0)).2) := (World.cell?_of_block (a := ⟨b, off + k * 2 + 1, none⟩) HK.out).trans hcx.2
      clear hcx
      have hT := filter_take (by omega : k < l.length) rfl
      generalize l.getD k (0, 0) = x at hc1 hc2 hT
      have HT := Lib.hid hT
      have HP := Lib.hid (filter_prefix l (k + 1))
      clear hT
      obtain ⟨lo, hi⟩ := x
      gi_wp2_with fail
      refine ⟨trivial, rfl, (callsIn_wide.2 (none_any lo hi _)).mono ?_⟩
      rintro e w1 ⟨rfl, hb⟩
      have hz := hb.size
      rw [World.size_alloc] at hb hz
      have hx1 : w1.cell? ⟨wr.heap.size, 0, none⟩ = some (.int .u64 lo) := cell_below hb (by simp [go_sem]) (by omega)
      have hx2 : w1.cell? ⟨wr.heap.size, 1, none⟩ = some (.int .u64 hi) := cell_below hb (by simp [go_sem]) (by omega)
      have ho : Only (fun _ => False) wr w1 := (Only.alloc _ _ _).trans (Only.of_all (by rw [World.size_alloc]; exact hb) _)
      have HO := Lib.hid ho
      have hbl : b < wr.heap.size := World.block_lt_of_cell? wr _ hc1
      have hkeep1 := Lib.hid ((ho.block b hbl (fun h => h)).trans HK.out)
      clear hb ho hc1 hc2
      have hj1 := Lib.hid (HJ.out _ _ (fun _ => False) wr w1 HJr.out HO.out (fun _ h => h.elim))
      by_cases hok : lo ≤ hi
      · have HT2 : Hid ((l.take (k + 1)).filter ok = (l.take k).filter ok ++ [(lo, hi)]) := Lib.hid (by rw [HT.out, if_pos (show ok (lo, hi) from hok)])
        have d1 : decide (hi < lo) = false := decide_eq_false (by omega)
        obtain ⟨fn, tmps, assign, body, hy, hR⟩ := HY.out _ (lo, hi) w1 (by rw [← HT2.out]; exact HP.out) (by omega) hj1.out
        have hy : (Instr.yield lp #[.agg #[.int .u64 lo, .int .u64 hi]]).run Tryz.prog w1 = .ok (.round lp fn tmps assign body) w1 := hy
        gi_wp2
        refine ⟨rfl, hR.mono ?_⟩
        rintro e W3 ⟨ho3, ⟨rfl, hJ3⟩ | ⟨rfl, hJx3⟩⟩
        · have HO3 := Lib.hid ho3
          have HJ3 := Lib.hid hJ3
          have hs3 := ho3.size
          clear ho3 hJ3
          gi_wp2
          go_roundw
          case rel => exact ⟨k + 1, by omega, by simp, by omega, (HO3.out.block b (by omega) (fun h => h (.inr rfl))).trans hkeep1.out, by rw [HT2.out]; exact HJ3.out⟩
          case measure => simp [intOf]; omega
        · have HO3 := Lib.hid ho3
          have HJ3 := Lib.hid hJx3
          have hs3 := ho3.size
          clear ho3 hJx3
          gi_wp2
          refine bodyPost_ret (results_none rfl _ _ _) rfl ?_
          exact ⟨⟨_, rfl⟩, by omega, .inr ⟨_, by rw [← HT2.out]; exact HP.out, HJ3.out⟩⟩
      · have HT2 : Hid ((l.take (k + 1)).filter ok = (l.take k).filter ok) := Lib.hid (by rw [HT.out, if_neg (show ¬ ok (lo, hi) from hok), List.append_nil])
        have d1 : decide (hi < lo) = true := decide_eq_true (by omega)
        gi_wp2
        refine ⟨fun _ h => (by cases h), ?_⟩
        gi_wp2
        go_roundw
        case rel => exact ⟨k + 1, by omega, by simp, by omega, hkeep1.out, by rw [HT2.out]; exact hj1.out⟩
        case measure => simp [intOf]; omega
    · obtain rfl : k = n := by omega
      gi_wp2
      go_end0
      exact ⟨⟨_, rfl⟩, hsz, .inl (by have := HJr.out; rwa [← hl, List.take_length] at this)⟩

set_option maxHeartbeats 1000000 in
theorem walk1_nil (Bs cap : Nat) (a : Option Addr) (lp : Nat) (J : World → Prop) (W : World) (hBs : W.cell? ⟨Bs, 0, none⟩ = some (.slice a 0 cap)) (h0 : J W) :
    CallsIn Fence.wide 0 Tryz.prog 199 #[.func (.yield lp) #[] #[], .pointer (some ⟨Bs, 0, none⟩)] W fun e B => (∃ v, e = .returned v) ∧ B = W := by
  refine callsIn_of_wp Tryz.func199 rfl trivial ?_ rfl
  simp only [Tryz.ntmps199, List.size_toArray, List.length_cons, List.length_nil, Nat.reduceAdd, Nat.reduceSub, Array.replicate_succ, Array.replicate_zero, List.push_toArray, List.append_toArray, List.nil_append, List.cons_append]
  gi_wp2
  gi_loopw [7] (fun i wr => i = .int .i64 0 ∧ wr = W) (fun _ _ => 0)
  case atStart => exact ⟨rfl, rfl⟩
  case round =>
    obtain ⟨rfl, rfl⟩ := hrel
    gi_wp2
    go_end0
    exact ⟨⟨_, rfl⟩, rfl⟩

/-- The iterator that walk tells. -/
theorem walk_iter (Bs : Nat) (v : Value) (l : List Ran) (w : World) (hl : l.length ≤ 1000) (hBs : w.cell? ⟨Bs, 0, none⟩ = some v) (hrd : Rd w v l) :
    Iter Tryz.prog 199 #[.pointer (some ⟨Bs, 0, none⟩)] (l.filter ok) (fun k => k = Bs ∨ Blk v k) w := by
  intro lp J Jx W hR hsz hJ hJx hY h0
  obtain ⟨a, cap, rfl, hcap, hrow⟩ := hrd
  have hBs' : W.cell? ⟨Bs, 0, none⟩ = some (.slice a l.length cap) := (World.cell?_of_block (a := ⟨Bs, 0, none⟩) (hR Bs (.inl rfl))).trans hBs
  by_cases hnil : l = []
  · subst hnil
    refine (walk1_nil Bs cap a lp (fun _ => True) W hBs' trivial).mono ?_
    rintro e B ⟨hv, rfl⟩
    exact ⟨hv, fun _ => False, ⟨Nat.le_refl _, fun k h => h.elim⟩, .inl h0⟩
  · obtain ⟨b, off, rfl, hc⟩ := hrow hnil
    have hpos : 0 < l.length := List.length_pos_iff.2 hnil
    have hb := hR b (.inr ⟨hpos, rfl⟩)
    refine (walk1_row Bs b off cap l.length l rfl hl lp J Jx W hBs' (fun i hi => ⟨(World.cell?_of_block (a := ⟨b, off + i * 2, none⟩) hb).trans (hc i hi).1, (World.cell?_of_block (a := ⟨b, off + i * 2 + 1, none⟩) hb).trans (hc i hi).2⟩) hJ ?_ h0).mono ?_
    · intro pre x A hp hs hj
      refine YieldAt.mono (hY pre x (fun _ => False) A hp ⟨hs, fun k h => h.elim⟩ hj) ?_
      rintro e B ⟨ho, h⟩
      refine ⟨ho.mono (fun k hk => fun h' => hk.2 ?_), h⟩
      rcases h' with rfl | rfl
      · exact .inl rfl
      · exact .inr ⟨hpos, rfl⟩
    · rintro e B ⟨hv, hs, h⟩
      exact ⟨hv, fun _ => False, ⟨hs, fun k h => h.elim⟩, h⟩
end Go.Proofs.YtoblmhpjendbfaaGreatDoor.Rg
