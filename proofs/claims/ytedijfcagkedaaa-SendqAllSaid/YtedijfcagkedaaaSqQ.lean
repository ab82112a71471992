/- Layer 15: a law's state beside a row of what was sent. By tools/gen-sendq-12.py. -/
import Derived.Test.YtedijfcagkedaaaSqP
namespace Go.Proofs.Ytedijfcagkedaaa.Rg
set_option maxRecDepth 20000
open Go.RowKit Go.Shelf
set_option linter.unusedVariables false
set_option linter.unusedSimpArgs false

theorem oper_append {P : Program} {o : Oper} {a : Act} {w : World} {K : Act → World → Prop} {Q : Exit → Act → World → Prop} (s x : Operand) (ts tx : TypeId)
    (hop : o.op = .call { callee := .builtin .append, args := #[s, x], argTypes := #[ts, tx] }) (vs vx : Value) (hs : a.eval s = vs) (hx : a.eval x = vx) {v' : Value} {w' : World}
    (hr : (Builtin.append_ #[ts, tx] o.type #[vs, vx]).run P w = .ok v' w') (hK : K (a.put o.dst v') w') : Oper.wp P o a w K Q := by
  unfold Oper.wp
  simp [execOp, hop, resolve, invoke, builtin, hs, hx, hr, Result.andThen]
  exact hK
theorem wpList_append_S (w : World) {ops : Array Oper} {rest : List Oper} {o : Oper} {a : Act} {Q : Exit → Act → World → Prop} (hgd : o.guard = none) (s x : Operand)
    (ho : o.op = .call { callee := .builtin .append, args := #[s, x], argTypes := #[55, 55] })
    (base : Nat) (v : Value) (hs : a.eval s = v) (l : List Sg) (hown : OwnS w base v l) (u : Value) (hx : a.eval x = u) (m : List Sg) (hr : RowS w u m) (hlen : l.length + m.length ≤ 100000) (hbase : base ≤ w.heap.size)
    (h : ∀ a' n' c' w', n' = (l ++ m).length → OwnS w' base (.slice a' n' c') (l ++ m) → w.grownBy w' v.ownBlock → ((Value.slice a' n' c').ownBlock = v.ownBlock ∨ (Value.slice a' n' c').ownBlock = some w.heap.size) → wpList Try.prog ops Q rest (a.put o.dst (.slice a' n' c')) w') :
    wpList Try.prog ops Q (o :: rest) a w := by
  obtain ⟨v', w', hrun, h1, h2, h3⟩ := run_append_S w base o.type v l hown u m hr hlen hbase
  obtain ⟨a', c', rfl⟩ := h1.form
  exact Lib.wpList_append_run w hgd s x 55 55 ho v u hs hx _ w' hrun (h _ _ _ _ rfl h1 h2 h3)
theorem RowS.go {W W' : World} {v : Value} {G : List Sg} (h : RowS W v G) (hb : Below W.heap.size W W') : RowS W' v G := by
  obtain ⟨a, cap, hv, hc, hr⟩ := h
  refine ⟨a, cap, hv, hc, fun hne => ?_⟩
  obtain ⟨b, off, ha, hlt, hcl⟩ := hr hne
  exact ⟨b, off, ha, Nat.lt_of_lt_of_le hlt hb.size, fun i hi j hj => (hb.cell (p := ⟨b, off + (i * 3 + j), none⟩) hlt).trans (hcl i hi j hj)⟩
theorem RowS.keep {W W' : World} {v : Value} {G : List Sg} (h : RowS W v G) (hz : W.heap.size ≤ W'.heap.size) (hk : ∀ k, Blk v k → W'.heap[k]? = W.heap[k]?) : RowS W' v G := by
  obtain ⟨a, cap, rfl, hc, hr⟩ := h
  refine ⟨a, cap, rfl, hc, fun hne => ?_⟩
  obtain ⟨b, off, rfl, hlt, hcl⟩ := hr hne
  refine ⟨b, off, rfl, Nat.lt_of_lt_of_le hlt hz, fun i hi j hj => ?_⟩
  have hbk : W'.heap[b]? = W.heap[b]? := hk b ⟨List.length_pos_iff.2 hne, rfl⟩
  exact (World.cell?_of_block (a := ⟨b, off + (i * 3 + j), none⟩) hbk).trans (hcl i hi j hj)
theorem RowS.take {w : World} {a : Option Addr} {n cap : Nat} {G : List Sg} (h : RowS w (.slice a n cap) G) {k : Nat} (hk : k ≤ n) : RowS w (.slice a k cap) (G.take k) := by
  obtain ⟨a', cap', e, hcap, hrow⟩ := h
  cases e
  refine ⟨_, cap, by rw [List.length_take, Nat.min_eq_left hk], by rw [List.length_take]; omega, fun hne => ?_⟩
  obtain ⟨b, off, rfl, hlt, hc⟩ := hrow (fun e => by rw [e] at hne; simp at hne)
  refine ⟨b, off, rfl, hlt, fun i hi j hj => ?_⟩
  rw [List.length_take] at hi
  have := hc i (by omega) j hj
  rw [this, List.getD_eq_getElem?_getD, List.getD_eq_getElem?_getD, List.getElem?_take, if_pos (by omega)]
theorem RowS.drop {w : World} {a : Option Addr} {n cap : Nat} {G : List Sg} (h : RowS w (.slice a n cap) G) {k : Nat} (hk : k ≤ n) :
    RowS w (.slice (if cap = k then a else a.map (·.add (k * 3))) (n - k) (cap - k)) (G.drop k) := by
  obtain ⟨a', cap', e, hcap, hrow⟩ := h
  cases e
  refine ⟨_, cap - k, by rw [List.length_drop], by rw [List.length_drop]; omega, fun hne => ?_⟩
  have hlt : k < G.length := by
    rcases Nat.lt_or_ge k G.length with h | h
    · exact h
    · exact absurd (List.drop_eq_nil_of_le h) hne
  obtain ⟨b, off, rfl, hbl, hc⟩ := hrow (fun e => by rw [e] at hlt; simp at hlt)
  refine ⟨b, off + k * 3, ?_, hbl, fun i hi j hj => ?_⟩
  · rw [if_neg (by omega)]
    rw [Option.map_some, Addr.add_lit]
  · rw [List.length_drop] at hi
    have := hc (k + i) (by omega) j hj
    have e1 : off + k * 3 + (i * 3 + j) = off + ((k + i) * 3 + j) := by omega
    have e2 : (G.drop k).getD i sgZ = G.getD (k + i) sgZ := by simp [List.getD]
    rw [e1, e2]
    exact this
/-- A law's state, and the row of what was sent. -/
structure AS (w W : World) (g : Nat) (u v : Value) (s : SS) (ov : Value) (G : List Sg) : Prop where
  ls : LS w W g u v s
  ow : OwnS W w.heap.size ov G
  ng : ∀ q, ov.ownBlock = some q → q ≠ g ∧ ¬ Blk u q ∧ ¬ Blk v q
theorem AS.go {w W : World} {g : Nat} {u v ov : Value} {s : SS} {G : List Sg} (h : AS w W g u v s ov G) {W' : World} (hb : Below W.heap.size W W') : AS w W' g u v s ov G := ⟨h.ls.go hb, h.ow.go hb, h.ng⟩
theorem AS.al {w W : World} {g : Nat} {u v ov : Value} {s : SS} {G : List Sg} (h : AS w W g u v s ov G) (o : Obj) : AS w (W.alloc o) g u v s ov G := h.go ((Below.refl _ _).alloc (Nat.le_refl _) o)
theorem AS.dr {w W : World} {g : Nat} {u v ov : Value} {s : SS} {G : List Sg} (h : AS w W g u v s ov G) : AS w W.drew g u v s ov G := h.go (Below.refl _ _).drew
theorem only_eight (g : Nat) (W : World) (x0 x1 x2 x3 x4 x5 x6 x7 : Value) : Only (· = g) W ((((((((W.setCell ⟨g, 0, none⟩ x0).setCell ⟨g, 1, none⟩ x1).setCell ⟨g, 2, none⟩ x2).setCell ⟨g, 3, none⟩ x3).setCell ⟨g, 4, none⟩ x4).setCell ⟨g, 5, none⟩ x5).setCell ⟨g, 6, none⟩ x6).setCell ⟨g, 7, none⟩ x7) :=
  (((((((only_at g 0 W x0).trans (only_at g 1 _ x1)).trans (only_at g 2 _ x2)).trans (only_at g 3 _ x3)).trans (only_at g 4 _ x4)).trans (only_at g 5 _ x5)).trans (only_at g 6 _ x6)).trans (only_at g 7 _ x7)
/-- A call's answer is laid into the law's state. -/
theorem AS.set {w W : World} {g : Nat} {u v ov : Value} {s : SS} {G : List Sg} (h : AS w W g u v s ov G) {W1 : World} {u' v' : Value} {s' : SS} (hb : Below W.heap.size W W1) (ra : Rd W1 u' s'.ak) (rt : Rd W1 v' s'.td) (ka : ∀ k, Blk u' k → W.heap.size ≤ k) (kt : ∀ k, Blk v' k → W.heap.size ≤ k) :
    AS w ((((((((W1.setCell ⟨g, 0, none⟩ (.int .u64 s'.ba)).setCell ⟨g, 1, none⟩ (.int .u64 s'.tp)).setCell ⟨g, 2, none⟩ (.string s'.d)).setCell ⟨g, 3, none⟩ u').setCell ⟨g, 4, none⟩ v').setCell ⟨g, 5, none⟩ (.bool s'.fin)).setCell ⟨g, 6, none⟩ (.bool s'.ft)).setCell ⟨g, 7, none⟩ (.bool s'.fa)) g u' v' s' ov G := by
  refine ⟨h.ls.set hb ra rt ka kt, (h.ow.go hb).only (only_eight g W1 _ _ _ _ _ _ _ _) (fun k hk e => (h.ng k hk).1 e), fun q hq => ⟨(h.ng q hq).1, fun e => ?_, fun e => ?_⟩⟩
  · have := ka q e; have := (h.ow.lt hq).2; omega
  · have := kt q e; have := (h.ow.lt hq).2; omega
theorem rd_grown {w w' : World} {v : Value} {l : List Ran} (h : Rd w v l) {o : Option Nat} (hg : w.grownBy w' o) (hn : ∀ q, o = some q → ¬ Blk v q) : Rd w' v l := by
  refine h.keep (fun k hk => ?_)
  exact hg.block k (h.blk hk) (fun e => hn k e.symm hk)
/-- The row grows. -/
theorem AS.app {w W : World} {g : Nat} {u v ov : Value} {s : SS} {G : List Sg} (h : AS w W g u v s ov G) {W' : World} {ov' : Value} {G' : List Sg} (ho : OwnS W' w.heap.size ov' G') (hg : W.grownBy W' ov.ownBlock) (he : ov'.ownBlock = ov.ownBlock ∨ ov'.ownBlock = some W.heap.size) : AS w W' g u v s ov' G' := by
  have hl := h.ls.lt
  refine ⟨⟨⟨(hg.block g hl (fun e => (h.ng g e.symm).1 rfl)).trans h.ls.q.hb, rd_grown h.ls.q.ra hg (fun q e => (h.ng q e).2.1), rd_grown h.ls.q.rt hg (fun q e => (h.ng q e).2.2), h.ls.q.oa, h.ls.q.ot⟩, h.ls.bl.grown hg h.ls.bl.size (fun k hk => (h.ow.lt hk).1), h.ls.hg⟩, ho, fun q hq => ?_⟩
  rcases he with he | he
  · rw [he] at hq; exact h.ng q hq
  · rw [he] at hq
    cases hq
    exact ⟨by omega, fun e => by have := h.ls.q.ra.blk e; omega, fun e => by have := h.ls.q.rt.blk e; omega⟩
/-- A row that lies elsewhere grows. -/
theorem AS.far {w W : World} {g : Nat} {u v ov : Value} {s : SS} {G : List Sg} (h : AS w W g u v s ov G) {W' : World} {o : Option Nat} (hg : W.grownBy W' o) (ho : ∀ q, o = some q → w.heap.size ≤ q ∧ q ≠ g ∧ ¬ Blk u q ∧ ¬ Blk v q ∧ ov.ownBlock ≠ some q) : AS w W' g u v s ov G := by
  have hl := h.ls.lt
  refine ⟨⟨⟨(hg.block g hl (fun e => (ho g e.symm).2.1 rfl)).trans h.ls.q.hb, rd_grown h.ls.q.ra hg (fun q e => (ho q e).2.2.1), rd_grown h.ls.q.rt hg (fun q e => (ho q e).2.2.2.1), h.ls.q.oa, h.ls.q.ot⟩, h.ls.bl.grown hg h.ls.bl.size (fun k hk => (ho k hk).1), h.ls.hg⟩, ?_, h.ng⟩
  refine ⟨h.ow.1, ?_⟩
  rcases h.ow.2 with h2 | ⟨q, cap, cur, rfl, hB, hgg, rest⟩
  · exact .inl h2
  · exact .inr ⟨q, cap, cur, rfl, hB, (hg.block q (Array.getElem?_eq_some_iff.1 hgg).1 (fun e => (ho q e.symm).2.2.2.2 rfl)).trans hgg, rest⟩
/-- Another row takes its place. -/
theorem AS.turn {w W : World} {g : Nat} {u v ov : Value} {s : SS} {G : List Sg} (h : AS w W g u v s ov G) {ov' : Value} {G' : List Sg} (ho : OwnS W w.heap.size ov' G') (hn : ∀ q, ov'.ownBlock = some q → q ≠ g ∧ ¬ Blk u q ∧ ¬ Blk v q) : AS w W g u v s ov' G' := ⟨h.ls, ho, hn⟩
/-- A block that holds what was sent. -/
def X3 (W : World) (p : Nat) (x : Sg) : Prop := W.heap[p]? = some (.cells #[.int .u64 x.off, .int .i64 x.n, .bool x.f] 57 (0, 0))
theorem X3.lt {W : World} {p : Nat} {x : Sg} (h : X3 W p x) : p < W.heap.size := (Array.getElem?_eq_some_iff.1 h).1
theorem X3.go {W W' : World} {p : Nat} {x : Sg} (h : X3 W p x) (hb : Below W.heap.size W W') : X3 W' p x := (hb.block p h.lt).trans h
theorem X3.grown {W W' : World} {p : Nat} {x : Sg} (h : X3 W p x) {o : Option Nat} (hg : W.grownBy W' o) (ho : o ≠ some p) : X3 W' p x := (hg.block p h.lt (fun e => ho e.symm)).trans h
theorem X3.c0 {W : World} {p : Nat} {x : Sg} (h : X3 W p x) : W.cell? ⟨p, 0, none⟩ = some (.int .u64 x.off) := Lib.cell_of_heap h 0
theorem X3.c1 {W : World} {p : Nat} {x : Sg} (h : X3 W p x) : W.cell? ⟨p, 1, none⟩ = some (.int .i64 x.n) := Lib.cell_of_heap h 1
theorem X3.c2 {W : World} {p : Nat} {x : Sg} (h : X3 W p x) : W.cell? ⟨p, 2, none⟩ = some (.bool x.f) := Lib.cell_of_heap h 2
theorem x3_made (W : World) (x : Sg) : X3 (W.alloc (.cells #[.int .u64 x.off, .int .i64 x.n, .bool x.f] 57)) W.heap.size x := heap_alloc_new W _
/-- Of a row that has something: where it lies. -/
theorem OwnS.some {W : World} {B : Nat} {a : Option Addr} {n c : Nat} {G : List Sg} (h : OwnS W B (.slice a n c) G) (hG : 0 < G.length) : ∃ q, a = some ⟨q, 0, none⟩ ∧ n = G.length ∧ n ≤ c ∧ ∀ i, i < G.length → W.cell? ⟨q, i * 3, none⟩ = some (.int .u64 (G.getD i sgZ).off) ∧ W.cell? ⟨q, i * 3 + 1, none⟩ = some (.int .i64 (G.getD i sgZ).n) ∧ W.cell? ⟨q, i * 3 + 2, none⟩ = some (.bool (G.getD i sgZ).f) := by
  have h0 := h
  rcases h.2 with ⟨hv, hz⟩ | ⟨g, cap, cur, hv, hb, hg, hnc, r⟩
  · omega
  · cases hv
    have hlen := flatS_len G
    refine ⟨g, rfl, rfl, hnc, fun i hi => ⟨?_, ?_, ?_⟩⟩
    · exact (World.ownsRow.cellAt h0 (i * 3 + 0) (by omega)).trans (flatS_get G i 0 hi (by decide))
    · exact (World.ownsRow.cellAt h0 (i * 3 + 1) (by omega)).trans (flatS_get G i 1 hi (by decide))
    · exact (World.ownsRow.cellAt h0 (i * 3 + 2) (by omega)).trans (flatS_get G i 2 hi (by decide))
end Go.Proofs.Ytedijfcagkedaaa.Rg
