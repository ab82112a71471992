/- The document's functions of layer 6: its (a law's frame as the document's). By tools/gen-frame-25.py. -/
import Derived.Test.YtpdfdhmhfdogcaaDoorFmLw
import Derived.Deep.RegionHeld3
import Derived.Deep.RegionLaw
namespace Go.Proofs.YtpdfdhmhfdogcaaDoor.Fm
set_option maxRecDepth 20000
open Go.RowKit Vm
set_option linter.unusedVariables false
set_option linter.unusedSimpArgs false

theorem infoD : (Tryd.prog.info? 69).map (fun i => (i.zero, i.size, i.bytes)) = some (some (.agg #[.int .u64 0, .int .u64 0]), 2, 16) := by kernel_rfl
def flatI (l : List Ran) : List Value := l.flatMap fun p => [.int .u64 p.1, .int .u64 p.2]
theorem flatI_len (l : List Ran) : (flatI l).length = l.length * 2 := by
  induction l with
  | nil => rfl
  | cons x l ih => simp only [flatI, List.flatMap_cons, List.length_append, List.length_cons, List.length_nil] at ih ⊢; omega
theorem flatI_app (l m : List Ran) : flatI (l ++ m) = flatI l ++ flatI m := by simp [flatI]
theorem flatI_get : ∀ (l : List Ran) (i : Nat), i < l.length → (flatI l)[i * 2]? = some (.int .u64 (l.getD i (0, 0)).1) ∧ (flatI l)[i * 2 + 1]? = some (.int .u64 (l.getD i (0, 0)).2)
  | [], i, h => absurd h (Nat.not_lt_zero _)
  | x :: l, 0, _ => ⟨rfl, rfl⟩
  | x :: l, i + 1, h => by
    obtain ⟨h1, h2⟩ := flatI_get l i (by simpa using h)
    have e1 : (i + 1) * 2 = i * 2 + 1 + 1 := by omega
    rw [e1]
    exact ⟨h1, h2⟩
/-- A slice of the document's ranges of the call's own. -/
def OwnD (w : World) (B : Nat) (v : Value) (l : List Ran) : Prop := w.ownsRow B 69 2 v l.length (flatI l)
theorem push_D (w : World) (B : Nat) (v : Value) (l : List Ran) (p : Ran) (ty : TypeId) (h : OwnD w B v l) (hl : l.length ≤ 1000) (hb : B ≤ w.heap.size) :
    ∃ v' w', (Builtin.append_ #[34, 34] ty #[v, .slice (some ⟨w.heap.size, 0, none⟩) 1 1]).run Tryd.prog (w.alloc (.cells #[.int .u64 p.1, .int .u64 p.2] 69)).drew = .ok v' w' ∧ OwnD w' B v' (l ++ [p]) ∧ Below B w w' ∧ (∀ K, K < w.heap.size → K ≠ v.ownBlock.getD w.heap.size → w'.heap[K]? = w.heap[K]?) := by
  obtain ⟨i0, hi, hz0, hz1, hz2⟩ := info_parts infoD
  have ho : (w.alloc (.cells #[.int .u64 p.1, .int .u64 p.2] 69)).drew.ownsRow B 69 2 v l.length (flatI l) := World.ownsRow.alloc h (.cells #[.int .u64 p.1, .int .u64 p.2] 69)
  obtain ⟨v', w', hr, h1, h2, h3⟩ := run_append_own (P := Tryd.prog) (w.alloc (.cells #[.int .u64 p.1, .int .u64 p.2] 69)).drew B 34 ty 69 i0 (.agg #[.int .u64 0, .int .u64 0]) 2 16 Tryd.underlying34 hi hz0 hz1 hz2 rfl (by decide) _ l.length (flatI l) ho ⟨w.heap.size, 0, none⟩ 1 1 [.int .u64 p.1, .int .u64 p.2] rfl
    (by
      intro j u hu
      have e : (⟨w.heap.size, 0, none⟩ : Addr).add j = ⟨w.heap.size, j, none⟩ := by unfold Addr.add; split <;> simp_all
      have hn : (w.alloc (.cells #[.int .u64 p.1, .int .u64 p.2] 69)).drew.heap[w.heap.size]? = some (.cells #[.int .u64 p.1, .int .u64 p.2] 69) := World.alloc_heap_new w _
      rw [e, Lib.cell_of_heap hn j, ← hu]
      simp) (by intro u hu; simp only [List.mem_cons, List.not_mem_nil, or_false] at hu; rcases hu with rfl | rfl <;> rfl) (by unfold maxLen; omega) (by omega) (by simp; omega)
  have e : flatI (l ++ [p]) = flatI l ++ [.int .u64 p.1, .int .u64 p.2] := by rw [flatI_app]; rfl
  refine ⟨v', w', hr, ?_, ?_, ?_⟩
  · unfold OwnD
    rw [e, List.length_append]
    exact h1
  · exact (Below.drew ((Below.refl _ _).alloc hb _)).grown h2 (by simp; omega) (fun k hk => (World.ownsRow.lt h k hk).1)
  · intro K hK hne
    refine (h2.block K (by simp; omega) (fun he => ?_)).trans ?_
    · exact hne (by rw [← he]; rfl)
    · exact Lib.alloc_old w _ K hK
theorem OwnD.only {w w' : World} {B : Nat} {v : Value} {l : List Ran} {O : Nat → Prop} (h : OwnD w B v l) (ho : It.Only O w w') (hn : ∀ g, v.ownBlock = some g → ¬ O g) : OwnD w' B v l := by
  refine ⟨h.1, ?_⟩
  rcases h.2 with h2 | ⟨g, cap, cur, hv, hb, hg, r⟩
  · exact .inl h2
  · exact .inr ⟨g, cap, cur, hv, hb, ho.heap hg (hn g (by rw [hv]; rfl)), r⟩
theorem step_append_run {P : Program} {ops : Array Oper} {o : Oper} {a : Act} {w : World} {K : Act → World → Prop} {Q : Exit → Act → World → Prop} {E : Prop}
    (hg : o.guard = none) (s x : Operand) (t : TypeId) (hop : o.op = Op.call { callee := Callee.builtin Builtin.append, args := #[s, x], argTypes := #[t, t] })
    (vs vx : Value) (hs : a.eval s = vs) (hx : a.eval x = vx) {v' : Value} {w' : World} (hr : (Builtin.append_ #[t, t] o.type #[vs, vx]).run P w = .ok v' w') (hK : K (a.put o.dst v') w') :
    if Region.wanted o (yielded ops a.tmps) = true then Oper.wp P o a w K Q else E := by
  have hw : Region.wanted o (yielded ops a.tmps) = true := by simp [Region.wanted, hg]
  rw [if_pos hw]
  unfold Oper.wp
  simp [execOp, hop, resolve, invoke, builtin, hs, hx, hr, Result.andThen]
  exact hK
/-- Between two rounds. -/
structure ItsI (f : Frm) (l : List Ran) (w : World) (i : Nat) (v : Value) (W : World) : Prop where
  o : W.heap[w.heap.size + 1 + 1]? = some (.cells #[.int .u64 f.kind, .int .u64 f.id, .int .u64 f.off, .int .u64 f.max, .int .u64 f.code, .int .u64 f.seq, .int .u64 f.prior, .int .u64 f.delay, .bool f.fin, .string ⟨f.data.toArray⟩, .string ⟨f.cid.toArray⟩, .string ⟨f.token.toArray⟩, v] 36 (0, 0))
  own : OwnD W (w.heap.size + 3) v (l.take i)
  b : FrB w.heap.size f W
  z : W.heap[w.heap.size + 1]? = some (.cells #[.int .u64 0, .int .u64 0, .int .u64 0, .int .u64 0, .int .u64 0, .int .u64 0, .int .u64 0, .int .u64 0, .bool false, .string ⟨#[]⟩, .string ⟨#[]⟩, .string ⟨#[]⟩, .slice none 0 0] 36 (0, 0))
  bel : Below w.heap.size w W
  sz : w.heap.size + 3 ≤ W.heap.size
theorem its_begin (f : Frm) (l : List Ran) (w : World) : ItsI f l w 0 (.slice none 0 0) (((w.alloc (.cells #[.int .u64 f.kind, .int .u64 f.id, .int .u64 f.off, .int .u64 f.max, .int .u64 f.code, .int .u64 f.seq, .int .u64 f.prior, .int .u64 f.delay, .bool f.fin, .string ⟨f.data.toArray⟩, .string ⟨f.cid.toArray⟩, .string ⟨f.token.toArray⟩, .slice f.set.a f.set.n f.set.c] 26 (0, 0))).alloc (.cells #[.int .u64 0, .int .u64 0, .int .u64 0, .int .u64 0, .int .u64 0, .int .u64 0, .int .u64 0, .int .u64 0, .bool false, .string ⟨#[]⟩, .string ⟨#[]⟩, .string ⟨#[]⟩, .slice none 0 0] 36 (0, 0))).alloc (.cells #[.int .u64 f.kind, .int .u64 f.id, .int .u64 f.off, .int .u64 f.max, .int .u64 f.code, .int .u64 f.seq, .int .u64 f.prior, .int .u64 f.delay, .bool f.fin, .string ⟨f.data.toArray⟩, .string ⟨f.cid.toArray⟩, .string ⟨f.token.toArray⟩, .slice none 0 0] 36 (0, 0))) := by
  refine ⟨?_, ⟨by rfl, .inl ⟨rfl, rfl⟩⟩, ?_, ?_, ?_, by simp⟩
  · have := World.alloc_heap_new ((w.alloc (.cells #[.int .u64 f.kind, .int .u64 f.id, .int .u64 f.off, .int .u64 f.max, .int .u64 f.code, .int .u64 f.seq, .int .u64 f.prior, .int .u64 f.delay, .bool f.fin, .string ⟨f.data.toArray⟩, .string ⟨f.cid.toArray⟩, .string ⟨f.token.toArray⟩, .slice f.set.a f.set.n f.set.c] 26 (0, 0))).alloc (.cells #[.int .u64 0, .int .u64 0, .int .u64 0, .int .u64 0, .int .u64 0, .int .u64 0, .int .u64 0, .int .u64 0, .bool false, .string ⟨#[]⟩, .string ⟨#[]⟩, .string ⟨#[]⟩, .slice none 0 0] 36 (0, 0))) (.cells #[.int .u64 f.kind, .int .u64 f.id, .int .u64 f.off, .int .u64 f.max, .int .u64 f.code, .int .u64 f.seq, .int .u64 f.prior, .int .u64 f.delay, .bool f.fin, .string ⟨f.data.toArray⟩, .string ⟨f.cid.toArray⟩, .string ⟨f.token.toArray⟩, .slice none 0 0] 36 (0, 0))
    rwa [World.size_alloc, World.size_alloc] at this
  · exact (Below.heap_alloc _ _ _ (by simp; omega)).trans ((Below.heap_alloc _ _ _ (by simp)).trans (World.alloc_heap_new w _))
  · refine (Below.heap_alloc _ _ _ (by simp)).trans ?_
    have := World.alloc_heap_new (w.alloc (.cells #[.int .u64 f.kind, .int .u64 f.id, .int .u64 f.off, .int .u64 f.max, .int .u64 f.code, .int .u64 f.seq, .int .u64 f.prior, .int .u64 f.delay, .bool f.fin, .string ⟨f.data.toArray⟩, .string ⟨f.cid.toArray⟩, .string ⟨f.token.toArray⟩, .slice f.set.a f.set.n f.set.c] 26 (0, 0))) (.cells #[.int .u64 0, .int .u64 0, .int .u64 0, .int .u64 0, .int .u64 0, .int .u64 0, .int .u64 0, .int .u64 0, .bool false, .string ⟨#[]⟩, .string ⟨#[]⟩, .string ⟨#[]⟩, .slice none 0 0] 36 (0, 0))
    rwa [World.size_alloc] at this
  · exact (((Below.refl _ _).alloc (Nat.le_refl _) _).alloc (by simp) _).alloc (by simp; omega) _
/-- A block that holds one of the document's frames. -/
def FrD (b : Nat) (f : Frm) (w : World) : Prop := w.heap[b]? = some (.cells #[.int .u64 f.kind, .int .u64 f.id, .int .u64 f.off, .int .u64 f.max, .int .u64 f.code, .int .u64 f.seq, .int .u64 f.prior, .int .u64 f.delay, .bool f.fin, .string ⟨f.data.toArray⟩, .string ⟨f.cid.toArray⟩, .string ⟨f.token.toArray⟩, .slice f.set.a f.set.n f.set.c] 36 (0, 0))
theorem FrD.set0 {b : Nat} {f : Frm} {w : World} (h : FrD b f w) (v : Int) : FrD b { f with kind := v } (w.setCell ⟨b, 0, none⟩ (.int .u64 v)) := Joins.block_setCell (i := 0) h _
theorem FrD.set1 {b : Nat} {f : Frm} {w : World} (h : FrD b f w) (v : Int) : FrD b { f with id := v } (w.setCell ⟨b, 1, none⟩ (.int .u64 v)) := Joins.block_setCell (i := 1) h _
theorem FrD.set2 {b : Nat} {f : Frm} {w : World} (h : FrD b f w) (v : Int) : FrD b { f with off := v } (w.setCell ⟨b, 2, none⟩ (.int .u64 v)) := Joins.block_setCell (i := 2) h _
theorem FrD.set3 {b : Nat} {f : Frm} {w : World} (h : FrD b f w) (v : Int) : FrD b { f with max := v } (w.setCell ⟨b, 3, none⟩ (.int .u64 v)) := Joins.block_setCell (i := 3) h _
theorem FrD.set4 {b : Nat} {f : Frm} {w : World} (h : FrD b f w) (v : Int) : FrD b { f with code := v } (w.setCell ⟨b, 4, none⟩ (.int .u64 v)) := Joins.block_setCell (i := 4) h _
theorem FrD.set5 {b : Nat} {f : Frm} {w : World} (h : FrD b f w) (v : Int) : FrD b { f with seq := v } (w.setCell ⟨b, 5, none⟩ (.int .u64 v)) := Joins.block_setCell (i := 5) h _
theorem FrD.set6 {b : Nat} {f : Frm} {w : World} (h : FrD b f w) (v : Int) : FrD b { f with prior := v } (w.setCell ⟨b, 6, none⟩ (.int .u64 v)) := Joins.block_setCell (i := 6) h _
theorem FrD.set7 {b : Nat} {f : Frm} {w : World} (h : FrD b f w) (v : Int) : FrD b { f with delay := v } (w.setCell ⟨b, 7, none⟩ (.int .u64 v)) := Joins.block_setCell (i := 7) h _
theorem FrD.set8 {b : Nat} {f : Frm} {w : World} (h : FrD b f w) (v : Bool) : FrD b { f with fin := v } (w.setCell ⟨b, 8, none⟩ (.bool v)) := Joins.block_setCell (i := 8) h _
theorem FrD.set9 {b : Nat} {f : Frm} {w : World} (h : FrD b f w) (v : List UInt8) : FrD b { f with data := v } (w.setCell ⟨b, 9, none⟩ (.string ⟨v.toArray⟩)) := Joins.block_setCell (i := 9) h _
theorem FrD.set10 {b : Nat} {f : Frm} {w : World} (h : FrD b f w) (v : List UInt8) : FrD b { f with cid := v } (w.setCell ⟨b, 10, none⟩ (.string ⟨v.toArray⟩)) := Joins.block_setCell (i := 10) h _
theorem FrD.set11 {b : Nat} {f : Frm} {w : World} (h : FrD b f w) (v : List UInt8) : FrD b { f with token := v } (w.setCell ⟨b, 11, none⟩ (.string ⟨v.toArray⟩)) := Joins.block_setCell (i := 11) h _
theorem FrD.set12 {b : Nat} {f : Frm} {w : World} (h : FrD b f w) (v : Sl) : FrD b { f with set := v } (w.setCell ⟨b, 12, none⟩ (.slice v.a v.n v.c)) := Joins.block_setCell (i := 12) h _
theorem rstF_frd {N : Nat} {f : Frm} {W : World} (h : FrD N f W) (g : Frm) : FrD N g (rstF N g W) := (((((((((((((h.set0 g.kind).set1 g.id).set2 g.off).set3 g.max).set4 g.code).set5 g.seq).set6 g.prior).set7 g.delay).set8 g.fin).set9 g.data).set10 g.cid).set11 g.token).set12 g.set)
theorem OwnD.rd {W : World} {B : Nat} {va : Option Addr} {vn vc : Nat} {l : List Ran} (h : OwnD W B (.slice va vn vc) l) : vn = l.length ∧ Rd W (.slice va l.length vc) l := by
  have h0 := h
  rcases h.2 with ⟨hv, hz⟩ | ⟨g, cap, cur, hv, hb, hg, hnc, r⟩
  · have hl : l = [] := List.eq_nil_of_length_eq_zero hz
    subst hl
    injection hv with e1 e2 e3
    exact ⟨e2, ⟨va, vc, rfl, Nat.zero_le _, fun h => absurd rfl h⟩⟩
  · injection hv with e1 e2 e3
    subst e1 e2 e3
    refine ⟨rfl, ⟨some ⟨g, 0, none⟩, vc, rfl, hnc, fun _ => ⟨g, 0, rfl, fun i hi => ?_⟩⟩⟩
    obtain ⟨f1, f2⟩ := flatI_get l i hi
    have hlen := flatI_len l
    rw [Nat.zero_add]
    exact ⟨(World.ownsRow.cellAt h0 (i * 2) (by omega)).trans f1, (World.ownsRow.cellAt h0 (i * 2 + 1) (by omega)).trans f2⟩
set_option maxRecDepth 100000 in
set_option maxHeartbeats 8000000 in
theorem its_any (f : Frm) (l : List Ran) (w : World) (hrd : Rd w (.slice f.set.a f.set.n f.set.c) l) (hl : l.length ≤ 1000) :
    Calls Tryd.prog 11 #[.agg #[.int .u64 f.kind, .int .u64 f.id, .int .u64 f.off, .int .u64 f.max, .int .u64 f.code, .int .u64 f.seq, .int .u64 f.prior, .int .u64 f.delay, .bool f.fin, .string ⟨f.data.toArray⟩, .string ⟨f.cid.toArray⟩, .string ⟨f.token.toArray⟩, .slice f.set.a f.set.n f.set.c]] w fun e w' => ∃ (sa : Option Addr) (sc : Nat), e = .returned (.agg #[.int .u64 f.kind, .int .u64 f.id, .int .u64 f.off, .int .u64 f.max, .int .u64 f.code, .int .u64 f.seq, .int .u64 f.prior, .int .u64 f.delay, .bool f.fin, .string ⟨f.data.toArray⟩, .string ⟨f.cid.toArray⟩, .string ⟨f.token.toArray⟩, .slice sa l.length sc]) ∧ Rd w' (.slice sa l.length sc) l ∧ Below w.heap.size w w' := by
  have HI0 := Lib.hid (its_begin f l w)
  have hln : l.length = f.set.n := by obtain ⟨a, cap, he, _⟩ := hrd; injection he with e1 e2 e3; omega
  have hni : (f.set.n : Int) ≤ 1000 := by omega
  have HR : Hid (∀ k, k < f.set.n → ∃ b off, f.set.a = some ⟨b, off, none⟩ ∧ b < w.heap.size ∧ w.cell? ⟨b, off + k * 2, none⟩ = some (.int .u64 (l.getD k (0, 0)).1) ∧ w.cell? ⟨b, off + k * 2 + 1, none⟩ = some (.int .u64 (l.getD k (0, 0)).2)) := Lib.hid (fun k hk => by
    obtain ⟨a, cap, he, _, hrow⟩ := hrd
    obtain ⟨b, off, ha, hc⟩ := hrow (by intro e; rw [e] at hln; simp at hln; omega)
    obtain ⟨c1, c2⟩ := hc k (by omega)
    injection he with e1 e2 e3
    exact ⟨b, off, e1.trans ha, World.block_lt_of_cell? _ _ c1, c1, c2⟩)
  have HLN := Lib.hid hln
  clear hrd hl hln
  go_enter Tryd.func11, Tryd.ntmps11
  go_wp2
  go_loopw [4] (fun iv wr => ∃ (i : Nat) (v : Value), i ≤ f.set.n ∧ iv = .int .i64 (i : Nat) ∧ ItsI f l w i v wr) (fun iv _ => f.set.n - (intOf iv).toNat)
  case atStart => exact ⟨0, _, Nat.zero_le _, rfl, HI0.out⟩
  case round =>
    clear HI0
    obtain ⟨i, v, hi, rfl, hI⟩ := hrel
    have HI := Lib.hid hI
    have c12 := hI.b.cell12
    have hi0 : (0 : Int) ≤ (i : Int) := by omega
    by_cases hin : (i : Int) < (f.set.n : Int)
    · have hin2 : i < f.set.n := by omega
      obtain ⟨rb, off, ha, g1, d1, d2⟩ := HR.out i hin2
      have d1 := cell_below HI.out.bel d1 g1
      have d2 := cell_below HI.out.bel d2 g1
      obtain ⟨⟨x1, x2⟩, hx⟩ : ∃ p, l.getD i (0, 0) = p := ⟨_, rfl⟩
      rw [hx] at d1 d2
      simp only at d1 d2
      have HTK : Hid (l.take (i + 1) = l.take i ++ [(x1, x2)]) := Lib.hid (by
        have := HLN.out
        rw [List.take_add_one, List.getElem?_eq_getElem (by omega), ← hx, List.getD_eq_getElem?_getD, List.getElem?_eq_getElem (by omega)]
        rfl)
      have o12 : wr.cell? ⟨w.heap.size + 1 + 1, 12, none⟩ = some v := Lib.cell_of_heap hI.o 12
      have of12 : wr.frozen? ⟨w.heap.size + 1 + 1, 12, none⟩ = false := Lib.frozen_of_heap hI.o 12
      have hsz := hI.sz
      have hlen : (l.take i).length ≤ 1000 := by rw [List.length_take]; omega
      obtain ⟨v', w', HA, ho', hb', hk'⟩ := push_D wr (w.heap.size + 3) v (l.take i) (x1, x2) 34 hI.own hlen hsz
      obtain ⟨va, vn, vc, rfl⟩ : ∃ va vn vc, v' = .slice va vn vc := by
        rcases ho'.2 with ⟨hv, _⟩ | ⟨g, cap, cur, hv, _⟩
        · exact ⟨_, _, _, hv⟩
        · exact ⟨_, _, _, hv⟩
      have hne : ∀ K, K < w.heap.size + 3 → K ≠ v.ownBlock.getD wr.heap.size := by
        intro K hK
        cases hv : v.ownBlock with
        | none => simp only [Option.getD_none]; omega
        | some g => have := (World.ownsRow.lt hI.own g hv).1; simp only [Option.getD_some]; omega
      have hO := (hk' (w.heap.size + 1 + 1) (by omega) (hne _ (by omega))).trans hI.o
      have hF := (hk' w.heap.size (by omega) (hne _ (by omega))).trans hI.b
      have hZ := (hk' (w.heap.size + 1) (by omega) (hne _ (by omega))).trans hI.z
      have p12 : w'.cell? ⟨w.heap.size + 1 + 1, 12, none⟩ = some v := Lib.cell_of_heap hO 12
      have pf12 : w'.frozen? ⟨w.heap.size + 1 + 1, 12, none⟩ = false := Lib.frozen_of_heap hO 12
      have HREL : Hid (ItsI f l w (i + 1) (.slice va vn vc) (w'.setCell ⟨w.heap.size + 1 + 1, 12, none⟩ (.slice va vn vc))) := Lib.hid (by
        have hon := It.Only.setCell (O := fun k => k = w.heap.size + 1 + 1) (p := ⟨w.heap.size + 1 + 1, 12, none⟩) rfl w' (.slice va vn vc)
        refine ⟨Joins.block_setCell (i := 12) hO _, ?_, hon.heap hF (by omega), hon.heap hZ (by omega), ?_, ?_⟩
        · rw [HTK.out]
          exact OwnD.only ho' hon (fun g hg => by have := (World.ownsRow.lt ho' g hg).1; omega)
        · exact (hI.bel.trans (hb'.mono (by omega))).trans (hon.below (by have := hb'.size; omega) (fun k hk => by omega))
        · have := hb'.size
          have := hon.size
          omega)
      rw [ha] at c12
      clear hI hO hF hZ hk' hne hx ha
      have hl1 : w.heap.size < wr.heap.size := by omega
      have hl2 : rb < wr.heap.size := by omega
      have hl3 : w.heap.size + 1 + 1 < wr.heap.size := by omega
      go_wp2_with fail
      go_region_law (refine step_append_run rfl _ _ _ rfl _ _ rfl rfl HA ?_)
      all_goals
        go_wp2
        go_roundw
        case rel => exact ⟨i + 1, _, by omega, rfl, HREL.out⟩
        case measure => simp [intOf]; omega
    · have hie : i = f.set.n := by omega
      subst hie
      obtain ⟨va, vn, vc, rfl⟩ : ∃ va vn vc, v = .slice va vn vc := by
        rcases hI.own.2 with ⟨hv, _⟩ | ⟨g, cap, cur, hv, _⟩
        · exact ⟨_, _, _, hv⟩
        · exact ⟨_, _, _, hv⟩
      have HOW : Hid (OwnD wr (w.heap.size + 3) (.slice va vn vc) l) := Lib.hid (by
        have h := hI.own
        rwa [List.take_of_length_le (by rw [HLN.out]; exact Nat.le_refl _)] at h)
      have HZD : Hid (FrD (w.heap.size + 1) frZ wr) := Lib.hid hI.z
      have o0 : wr.cell? ⟨w.heap.size + 1 + 1, 0, none⟩ = _ := Lib.cell_of_heap hI.o 0
      have o1 : wr.cell? ⟨w.heap.size + 1 + 1, 1, none⟩ = _ := Lib.cell_of_heap hI.o 1
      have o2 : wr.cell? ⟨w.heap.size + 1 + 1, 2, none⟩ = _ := Lib.cell_of_heap hI.o 2
      have o3 : wr.cell? ⟨w.heap.size + 1 + 1, 3, none⟩ = _ := Lib.cell_of_heap hI.o 3
      have o4 : wr.cell? ⟨w.heap.size + 1 + 1, 4, none⟩ = _ := Lib.cell_of_heap hI.o 4
      have o5 : wr.cell? ⟨w.heap.size + 1 + 1, 5, none⟩ = _ := Lib.cell_of_heap hI.o 5
      have o6 : wr.cell? ⟨w.heap.size + 1 + 1, 6, none⟩ = _ := Lib.cell_of_heap hI.o 6
      have o7 : wr.cell? ⟨w.heap.size + 1 + 1, 7, none⟩ = _ := Lib.cell_of_heap hI.o 7
      have o8 : wr.cell? ⟨w.heap.size + 1 + 1, 8, none⟩ = _ := Lib.cell_of_heap hI.o 8
      have o9 : wr.cell? ⟨w.heap.size + 1 + 1, 9, none⟩ = _ := Lib.cell_of_heap hI.o 9
      have o10 : wr.cell? ⟨w.heap.size + 1 + 1, 10, none⟩ = _ := Lib.cell_of_heap hI.o 10
      have o11 : wr.cell? ⟨w.heap.size + 1 + 1, 11, none⟩ = _ := Lib.cell_of_heap hI.o 11
      have o12 : wr.cell? ⟨w.heap.size + 1 + 1, 12, none⟩ = _ := Lib.cell_of_heap hI.o 12
      have z0 : wr.cell? ⟨w.heap.size + 1, 0, none⟩ = _ := Lib.cell_of_heap hI.z 0
      have z1 : wr.cell? ⟨w.heap.size + 1, 1, none⟩ = _ := Lib.cell_of_heap hI.z 1
      have z2 : wr.cell? ⟨w.heap.size + 1, 2, none⟩ = _ := Lib.cell_of_heap hI.z 2
      have z3 : wr.cell? ⟨w.heap.size + 1, 3, none⟩ = _ := Lib.cell_of_heap hI.z 3
      have z4 : wr.cell? ⟨w.heap.size + 1, 4, none⟩ = _ := Lib.cell_of_heap hI.z 4
      have z5 : wr.cell? ⟨w.heap.size + 1, 5, none⟩ = _ := Lib.cell_of_heap hI.z 5
      have z6 : wr.cell? ⟨w.heap.size + 1, 6, none⟩ = _ := Lib.cell_of_heap hI.z 6
      have z7 : wr.cell? ⟨w.heap.size + 1, 7, none⟩ = _ := Lib.cell_of_heap hI.z 7
      have z8 : wr.cell? ⟨w.heap.size + 1, 8, none⟩ = _ := Lib.cell_of_heap hI.z 8
      have z9 : wr.cell? ⟨w.heap.size + 1, 9, none⟩ = _ := Lib.cell_of_heap hI.z 9
      have z10 : wr.cell? ⟨w.heap.size + 1, 10, none⟩ = _ := Lib.cell_of_heap hI.z 10
      have z11 : wr.cell? ⟨w.heap.size + 1, 11, none⟩ = _ := Lib.cell_of_heap hI.z 11
      have z12 : wr.cell? ⟨w.heap.size + 1, 12, none⟩ = _ := Lib.cell_of_heap hI.z 12
      have zf : ∀ k, wr.frozen? ⟨w.heap.size + 1, k, none⟩ = false := fun k => Lib.frozen_of_heap hI.z k
      clear hI
      go_wp2
      refine bodyPost_ret (v := .agg #[.int .u64 f.kind, .int .u64 f.id, .int .u64 f.off, .int .u64 f.max, .int .u64 f.code, .int .u64 f.seq, .int .u64 f.prior, .int .u64 f.delay, .bool f.fin, .string ⟨f.data.toArray⟩, .string ⟨f.cid.toArray⟩, .string ⟨f.token.toArray⟩, .slice va vn vc]) (by
        change Sem.run Tryd.prog (results _ _) (rstF (w.heap.size + 1) { f with set := ⟨va, vn, vc⟩ } wr) = Result.ok _ (rstF (w.heap.size + 1) { f with set := ⟨va, vn, vc⟩ } wr)
        have e := rstF_frd HZD.out { f with set := ⟨va, vn, vc⟩ }
        have y0 : (rstF (w.heap.size + 1) { f with set := ⟨va, vn, vc⟩ } wr).cell? ⟨w.heap.size + 1, 0, none⟩ = some (.int .u64 f.kind) := Lib.cell_of_heap e 0
        have y1 : (rstF (w.heap.size + 1) { f with set := ⟨va, vn, vc⟩ } wr).cell? ⟨w.heap.size + 1, 1, none⟩ = some (.int .u64 f.id) := Lib.cell_of_heap e 1
        have y2 : (rstF (w.heap.size + 1) { f with set := ⟨va, vn, vc⟩ } wr).cell? ⟨w.heap.size + 1, 2, none⟩ = some (.int .u64 f.off) := Lib.cell_of_heap e 2
        have y3 : (rstF (w.heap.size + 1) { f with set := ⟨va, vn, vc⟩ } wr).cell? ⟨w.heap.size + 1, 3, none⟩ = some (.int .u64 f.max) := Lib.cell_of_heap e 3
        have y4 : (rstF (w.heap.size + 1) { f with set := ⟨va, vn, vc⟩ } wr).cell? ⟨w.heap.size + 1, 4, none⟩ = some (.int .u64 f.code) := Lib.cell_of_heap e 4
        have y5 : (rstF (w.heap.size + 1) { f with set := ⟨va, vn, vc⟩ } wr).cell? ⟨w.heap.size + 1, 5, none⟩ = some (.int .u64 f.seq) := Lib.cell_of_heap e 5
        have y6 : (rstF (w.heap.size + 1) { f with set := ⟨va, vn, vc⟩ } wr).cell? ⟨w.heap.size + 1, 6, none⟩ = some (.int .u64 f.prior) := Lib.cell_of_heap e 6
        have y7 : (rstF (w.heap.size + 1) { f with set := ⟨va, vn, vc⟩ } wr).cell? ⟨w.heap.size + 1, 7, none⟩ = some (.int .u64 f.delay) := Lib.cell_of_heap e 7
        have y8 : (rstF (w.heap.size + 1) { f with set := ⟨va, vn, vc⟩ } wr).cell? ⟨w.heap.size + 1, 8, none⟩ = some (.bool f.fin) := Lib.cell_of_heap e 8
        have y9 : (rstF (w.heap.size + 1) { f with set := ⟨va, vn, vc⟩ } wr).cell? ⟨w.heap.size + 1, 9, none⟩ = some (.string ⟨f.data.toArray⟩) := Lib.cell_of_heap e 9
        have y10 : (rstF (w.heap.size + 1) { f with set := ⟨va, vn, vc⟩ } wr).cell? ⟨w.heap.size + 1, 10, none⟩ = some (.string ⟨f.cid.toArray⟩) := Lib.cell_of_heap e 10
        have y11 : (rstF (w.heap.size + 1) { f with set := ⟨va, vn, vc⟩ } wr).cell? ⟨w.heap.size + 1, 11, none⟩ = some (.string ⟨f.token.toArray⟩) := Lib.cell_of_heap e 11
        have y12 : (rstF (w.heap.size + 1) { f with set := ⟨va, vn, vc⟩ } wr).cell? ⟨w.heap.size + 1, 12, none⟩ = some (.slice va vn vc) := Lib.cell_of_heap e 12
        generalize (rstF (w.heap.size + 1) { f with set := ⟨va, vn, vc⟩ } wr) = X at y0 y1 y2 y3 y4 y5 y6 y7 y8 y9 y10 y11 y12 ⊢
        simp [results, Tryd.results11, go_sem, y0, y1, y2, y3, y4, y5, y6, y7, y8, y9, y10, y11, y12]) rfl ?_
      have hon := rstF_only (w.heap.size + 1) { f with set := ⟨va, vn, vc⟩ } wr
      obtain ⟨hvn, hrd⟩ := OwnD.rd (OwnD.only HOW.out hon (fun g hg => by have := (World.ownsRow.lt HOW.out g hg).1; omega))
      subst hvn
      exact ⟨va, vc, rfl, hrd, HI.out.bel.trans (hon.below HI.out.bel.size (fun k hk => by omega))⟩
end Go.Proofs.YtpdfdhmhfdogcaaDoor.Fm
