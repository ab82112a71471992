/- Layer 14: rows of parts; Grow, Concat, Clone. After layer 10's rows of entries. -/
import Derived.Test.YtndnlpohdimgaaaGaM
import Derived.Test.YtndnlpohdimgaaaRgQ
import Derived.Maps.AppendAt
import Derived.Lib.AppendZeros
import Derived.Lib.Hide
import Derived.Laws.OwnMore
import Derived.Laws.ResultCell
import Derived.Lib.SliceRun
import Derived.WalkSpells
namespace Go.Proofs.Ytndnlpohdimgaaa.Rg
set_option maxRecDepth 20000
open Go.RowKit Go.Shelf
set_option linter.unusedVariables false
set_option linter.unusedSimpArgs false

/-- The cells of a part: where it begins, and its bytes. -/
def gcs (T : ByteArray) (x : Ran) : List Value := [.int .u64 x.1, .string (bt T x)]
def flatG (T : ByteArray) (G : List Ran) : List Value := G.flatMap (gcs T)
theorem flatG_len (T : ByteArray) (G : List Ran) : (flatG T G).length = G.length * 2 := by
  induction G with
  | nil => rfl
  | cons f G ih =>
    show (gcs T f ++ flatG T G).length = (G.length + 1) * 2
    rw [List.length_append, ih, show (gcs T f).length = 2 from rfl]
    omega
theorem flatG_app (T : ByteArray) (G H : List Ran) : flatG T (G ++ H) = flatG T G ++ flatG T H := by simp [flatG]
theorem flatG_get (T : ByteArray) : ∀ (G : List Ran) (i j : Nat), i < G.length → j < 2 → (flatG T G)[i * 2 + j]? = (gcs T (G.getD i (0, 0)))[j]?
  | [], i, j, h, _ => by simp at h
  | f :: G, 0, j, _, hj => by
    show (gcs T f ++ flatG T G)[0 * 2 + j]? = _
    rw [List.getElem?_append_left (by show 0 * 2 + j < 2; omega), Nat.zero_mul, Nat.zero_add]
    rfl
  | f :: G, i + 1, j, h, hj => by
    show (gcs T f ++ flatG T G)[(i + 1) * 2 + j]? = _
    rw [List.getElem?_append_right (by show 2 ≤ (i + 1) * 2 + j; omega), show (i + 1) * 2 + j - (gcs T f).length = i * 2 + j by show (i + 1) * 2 + j - 2 = _; omega]
    exact flatG_get T G i j (by simpa using h) hj
theorem gcs_one (T : ByteArray) (f : Ran) : ∀ u ∈ gcs T f, u.oneCell' = true := by
  intro u hu
  simp only [gcs, List.mem_cons, List.not_mem_nil, or_false] at hu
  rcases hu with rfl | rfl <;> rfl
theorem flatG_one (T : ByteArray) (G : List Ran) : ∀ u ∈ flatG T G, u.oneCell' = true := by
  intro u hu
  obtain ⟨f, _, hf⟩ := List.mem_flatMap.1 hu
  exact gcs_one T f u hf
/-- A row of parts that the call owns. -/
def OwnG (Y : TypeId) (w : World) (B : Nat) (v : Value) (T : ByteArray) (G : List Ran) : Prop := w.ownsRow B Y 2 v G.length (flatG T G)
/-- What a type of parts and its slices have to be. -/
structure TyG (Y SL : TypeId) : Prop where
  u : Try.prog.underlying SL = some (.slice Y)
  i : (Try.prog.info? Y).map (fun i => (i.zero, i.size, i.bytes)) = some (some (.agg #[.int .u64 0, .string ⟨#[]⟩]), 2, 24)
theorem tyG : TyG 50 26 := ⟨Try.underlying26, by kernel_rfl⟩
theorem tyR : TyG 60 38 := ⟨Try.underlying38, by kernel_rfl⟩
/-- A row of parts that one reads. -/
def RowG (W : World) (v : Value) (T : ByteArray) (G : List Ran) : Prop := ∃ a cap, v = .slice a G.length cap ∧ G.length ≤ cap ∧ (G ≠ [] → ∃ b off, a = some ⟨b, off, none⟩ ∧ b < W.heap.size ∧ ∀ i, i < G.length → ∀ j, j < 2 → W.cell? ⟨b, off + (i * 2 + j), none⟩ = (gcs T (G.getD i (0, 0)))[j]?)
theorem RowG.go {W W' : World} {v : Value} {T : ByteArray} {G : List Ran} (h : RowG W v T G) (hb : Below W.heap.size W W') : RowG W' v T G := by
  obtain ⟨a, cap, hv, hc, hr⟩ := h
  refine ⟨a, cap, hv, hc, fun hne => ?_⟩
  obtain ⟨b, off, ha, hlt, hcl⟩ := hr hne
  exact ⟨b, off, ha, Nat.lt_of_lt_of_le hlt hb.size, fun i hi j hj => (hb.cell (p := ⟨b, off + (i * 2 + j), none⟩) hlt).trans (hcl i hi j hj)⟩
theorem RowG.nil (W : World) (T : ByteArray) : RowG W (.slice none 0 0) T [] := ⟨none, 0, rfl, Nat.le_refl _, fun h => absurd rfl h⟩
theorem RowG.form {W : World} {v : Value} {T : ByteArray} {G : List Ran} (h : RowG W v T G) : ∃ a c, v = .slice a G.length c := by
  obtain ⟨a, c, h, _⟩ := h
  exact ⟨a, c, h⟩
/-- Of such a row only its block matters. -/
theorem RowG.keep {W W' : World} {v : Value} {T : ByteArray} {G : List Ran} (h : RowG W v T G) (hz : W.heap.size ≤ W'.heap.size) (hk : ∀ k, Blk v k → W'.heap[k]? = W.heap[k]?) : RowG W' v T G := by
  obtain ⟨a, cap, rfl, hc, hr⟩ := h
  refine ⟨a, cap, rfl, hc, fun hne => ?_⟩
  obtain ⟨b, off, rfl, hlt, hcl⟩ := hr hne
  refine ⟨b, off, rfl, Nat.lt_of_lt_of_le hlt hz, fun i hi j hj => ?_⟩
  have hbk : W'.heap[b]? = W.heap[b]? := hk b ⟨List.length_pos_iff.2 hne, rfl⟩
  exact (World.cell?_of_block (a := ⟨b, off + (i * 2 + j), none⟩) hbk).trans (hcl i hi j hj)
theorem RowG.blk {W : World} {v : Value} {T : ByteArray} {G : List Ran} (h : RowG W v T G) {k : Nat} (hk : Blk v k) : k < W.heap.size := by
  obtain ⟨a, cap, rfl, hc, hr⟩ := h
  cases a with
  | none => exact hk.elim
  | some a =>
    obtain ⟨h1, h2⟩ := hk
    obtain ⟨b, off, ha, hlt, _⟩ := hr (List.length_pos_iff.1 h1)
    cases ha
    exact h2 ▸ hlt
theorem OwnG.row {Y : TypeId} {W : World} {B : Nat} {v : Value} {T : ByteArray} {G : List Ran} (h : OwnG Y W B v T G) : RowG W v T G := by
  have h0 := h
  rcases h.2 with ⟨hv, hz⟩ | ⟨g, cap, cur, hv, hb, hg, hnc, r⟩
  · have hl : G = [] := List.eq_nil_of_length_eq_zero hz
    subst hl
    exact ⟨none, 0, hv, Nat.le_refl _, fun h => absurd rfl h⟩
  · subst hv
    refine ⟨some ⟨g, 0, none⟩, cap, rfl, hnc, fun _ => ⟨g, 0, rfl, (Array.getElem?_eq_some_iff.1 hg).1, fun i hi j hj => ?_⟩⟩
    have hlen := flatG_len T G
    rw [Nat.zero_add]
    exact (World.ownsRow.cellAt h0 (i * 2 + j) (by omega)).trans (flatG_get T G i j hi hj)
theorem OwnG.form {Y : TypeId} {W : World} {B : Nat} {v : Value} {T : ByteArray} {G : List Ran} (h : OwnG Y W B v T G) : ∃ a c, v = .slice a G.length c := by
  rcases h.2 with ⟨hv, hz⟩ | ⟨g, cap, cur, hv, _⟩
  · exact ⟨none, 0, by rw [hv, hz]⟩
  · exact ⟨_, _, hv⟩
theorem OwnG.lt {Y : TypeId} {W : World} {B : Nat} {v : Value} {T : ByteArray} {G : List Ran} (h : OwnG Y W B v T G) {k : Nat} (hk : v.ownBlock = some k) : B ≤ k ∧ k < W.heap.size := World.ownsRow.lt h k hk
theorem OwnG.only {Y : TypeId} {w w' : World} {B : Nat} {v : Value} {T : ByteArray} {G : List Ran} (h : OwnG Y w B v T G) {O : Nat → Prop} (ho : Only O w w') (hn : ∀ k, v.ownBlock = some k → ¬ O k) : OwnG Y w' B v T G := by
  refine ⟨h.1, ?_⟩
  rcases h.2 with h2 | ⟨g, cap, cur, rfl, hb, hgg, rest⟩
  · exact .inl h2
  · exact .inr ⟨g, cap, cur, rfl, hb, ho.heap hgg (hn g rfl), rest⟩
theorem OwnG.go {Y : TypeId} {w w' : World} {B : Nat} {v : Value} {T : ByteArray} {G : List Ran} (h : OwnG Y w B v T G) (hb : Below w.heap.size w w') : OwnG Y w' B v T G := by
  refine ⟨h.1, ?_⟩
  rcases h.2 with h2 | ⟨g, cap, cur, rfl, hB, hgg, rest⟩
  · exact .inl h2
  · exact .inr ⟨g, cap, cur, rfl, hB, (hb.block g (Array.getElem?_eq_some_iff.1 hgg).1).trans hgg, rest⟩
theorem OwnG.mono {Y : TypeId} {w : World} {B B' : Nat} {v : Value} {T : ByteArray} {G : List Ran} (h : OwnG Y w B v T G) (hB : B' ≤ B) : OwnG Y w B' v T G := by
  refine ⟨h.1, ?_⟩
  rcases h.2 with h2 | ⟨g, cap, cur, rfl, hb, rest⟩
  · exact .inl h2
  · exact .inr ⟨g, cap, cur, rfl, Nat.le_trans hB hb, rest⟩
theorem OwnG.blk {Y : TypeId} {w : World} {B : Nat} {v : Value} {T : ByteArray} {G : List Ran} (h : OwnG Y w B v T G) {k : Nat} (hk : Blk v k) : v.ownBlock = some k ∧ B ≤ k := by
  rcases h.2 with ⟨rfl, _⟩ | ⟨g, cap, cur, rfl, hb, _⟩
  · exact hk.elim
  · have : g = k := hk.2
    subst this
    exact ⟨rfl, hb⟩
theorem rowG_cells {W : World} {T : ByteArray} {b off : Nat} {G : List Ran} (h : ∀ i, i < G.length → ∀ j, j < 2 → W.cell? ⟨b, off + (i * 2 + j), none⟩ = (gcs T (G.getD i (0, 0)))[j]?) :
    ∀ j u, (flatG T G)[j]? = some u → W.cell? ((⟨b, off, none⟩ : Addr).add j) = some u := by
  intro j u hu
  have hj : j < G.length * 2 := by rw [← flatG_len T]; exact (List.getElem?_eq_some_iff.1 hu).1
  have hq : j / 2 < G.length := by omega
  have h1 := h (j / 2) hq (j % 2) (by omega)
  have h2 := flatG_get T G (j / 2) (j % 2) hq (by omega)
  rw [show j / 2 * 2 + j % 2 = j by omega] at h1 h2
  rw [Addr.add_lit, h1, ← h2, hu]
theorem run_append_noneG {P : Program} {w : World} (base : Nat) (t ty e : TypeId) (i : TypeInfo) (size c : Nat) (ht : P.underlying t = some (.slice e)) (hi : P.info? e = some i)
    (v : Value) (n : Nat) (xs : List Value) (hown : w.ownsRow base e size v n xs) :
    (Builtin.append_ #[t, t] ty #[v, .slice none 0 c]).run P w = .ok v w := by
  rcases hown.2 with ⟨rfl, rfl⟩ | ⟨g, cap, cur, rfl, _, _, hnc, _⟩
  · simp [Builtin.append_, run_underlying ht, sizeOf, typeInfo, hi, Builtin.lenOf, Builtin.firstCells]
  · simp [Builtin.append_, run_underlying ht, sizeOf, typeInfo, hi, Builtin.lenOf, Builtin.firstCells, hnc, storeCells]
/-- Appending parts that are read to a row of our own. -/
theorem run_append_G {Y SL : TypeId} (hT : TyG Y SL) (T : ByteArray) (w : World) (base : Nat) (ty : TypeId) (v : Value) (l : List Ran) (hown : OwnG Y w base v T l) (u : Value) (m : List Ran) (hr : RowG w u T m) (hlen : l.length + m.length ≤ 100000) (hbase : base ≤ w.heap.size) :
    ∃ v' w', (Builtin.append_ #[SL, SL] ty #[v, u]).run Try.prog w = .ok v' w' ∧ OwnG Y w' base v' T (l ++ m) ∧ w.grownBy w' v.ownBlock ∧ (v'.ownBlock = v.ownBlock ∨ v'.ownBlock = some w.heap.size) := by
  obtain ⟨i0, hi, hz0, hz1, hz2⟩ := info_parts hT.i
  obtain ⟨a, cap, rfl, hcap, hrow⟩ := hr
  have fin : ∀ (ad : Addr), a = some ad → (∀ j u, (flatG T m)[j]? = some u → w.cell? (ad.add j) = some u) →
      ∃ v' w', (Builtin.append_ #[SL, SL] ty #[v, .slice a m.length cap]).run Try.prog w = .ok v' w' ∧ OwnG Y w' base v' T (l ++ m) ∧ w.grownBy w' v.ownBlock ∧ (v'.ownBlock = v.ownBlock ∨ v'.ownBlock = some w.heap.size) := by
    intro ad ha hc
    obtain ⟨v', w', h1, h2, h3, _, h4⟩ := run_append_own_at (P := Try.prog) w base SL ty Y i0 (.agg #[.int .u64 0, .string ⟨#[]⟩]) 2 24 hT.u hi hz0 hz1 hz2 rfl (by decide) v l.length (flatG T l) hown ad m.length cap (flatG T m) (flatG_len T m) hc (flatG_one T m) (by unfold maxLen; omega) (by omega) hbase
    refine ⟨v', w', by rw [ha]; exact h1, ?_, h3, h4⟩
    unfold OwnG
    rw [List.length_append, flatG_app]
    exact h2
  by_cases hnil : m = []
  · subst hnil
    cases a with
    | none => exact ⟨v, w, run_append_noneG base SL ty Y i0 2 cap hT.u hi v l.length (flatG T l) hown, by rw [List.append_nil]; exact hown, ⟨rfl, rfl, rfl, Nat.le_refl _, fun _ _ _ => rfl⟩, .inl rfl⟩
    | some ad => exact fin ad rfl (fun j u h => by simp [flatG] at h)
  · obtain ⟨b, off, rfl, hb, hc⟩ := hrow hnil
    exact fin _ rfl (rowG_cells hc)
theorem wpList_append_G {Y SL : TypeId} (hT : TyG Y SL) (T : ByteArray) (w : World) {ops : Array Oper} {rest : List Oper} {o : Oper} {a : Act} {Q : Exit → Act → World → Prop} (hgd : o.guard = none) (s x : Operand)
    (ho : o.op = .call { callee := .builtin .append, args := #[s, x], argTypes := #[SL, SL] })
    (base : Nat) (v : Value) (hs : a.eval s = v) (l : List Ran) (hown : OwnG Y w base v T l) (u : Value) (hx : a.eval x = u) (m : List Ran) (hr : RowG w u T m) (hlen : l.length + m.length ≤ 100000) (hbase : base ≤ w.heap.size)
    (h : ∀ a' n' c' w', OwnG Y w' base (.slice a' n' c') T (l ++ m) → w.grownBy w' v.ownBlock → ((Value.slice a' n' c').ownBlock = v.ownBlock ∨ (Value.slice a' n' c').ownBlock = some w.heap.size) → wpList Try.prog ops Q rest (a.put o.dst (.slice a' n' c')) w') :
    wpList Try.prog ops Q (o :: rest) a w := by
  obtain ⟨v', w', hrun, h1, h2, h3⟩ := run_append_G hT T w base o.type v l hown u m hr hlen hbase
  obtain ⟨a', c', rfl⟩ := h1.form
  exact Lib.wpList_append_run w hgd s x SL SL ho v u hs hx _ w' hrun (h _ _ _ _ h1 h2 h3)
theorem OwnG.nil (Y : TypeId) (W : World) (B : Nat) (T : ByteArray) : OwnG Y W B (.slice none 0 0) T [] := ⟨rfl, .inl ⟨rfl, rfl⟩⟩
theorem ownG_made (w : World) (Y : TypeId) (T : ByteArray) : OwnG Y (w.alloc (.cells #[] Y)) w.heap.size (.slice (some ⟨w.heap.size, 0, none⟩) 0 0) T [] := World.ownsRow_made w #[] 0 (Nat.le_refl _) (by unfold maxLen; omega) rfl
/-- One part in a new row. -/
theorem rowG_one (W : World) (Y : TypeId) (T : ByteArray) (x : Ran) : RowG (W.alloc (.cells #[.int .u64 x.1, .string (bt T x)] Y)) (.slice (some ⟨W.heap.size, 0, none⟩) 1 1) T [x] :=
  ⟨_, 1, rfl, Nat.le_refl _, fun _ => ⟨_, 0, rfl, by simp, fun i hi j hj => by
    obtain rfl : i = 0 := by simp at hi; omega
    have : j = 0 ∨ j = 1 := by omega
    rcases this with rfl | rfl <;> simp [go_sem, gcs]⟩⟩

set_option maxHeartbeats 1000000 in
theorem growG_zero (T : ByteArray) (w : World) : Calls Try.prog 32 #[.slice none 0 0, .int .i64 0] w fun e w' => ∃ v, e = .returned v ∧ OwnG 50 w' w.heap.size v T [] ∧ Below w.heap.size w w' := by
  go_enter Try.func32, Try.ntmps32
  go_wp2
  go_ret
  exact ⟨_, rfl, OwnG.nil _ _ _ _, Below.refl _ _⟩
set_option maxHeartbeats 1000000 in
theorem growG_some (T : ByteArray) (n : Nat) (hn : n ≤ 1000) (h0 : 0 < n) (w : World) : Calls Try.prog 32 #[.slice none 0 0, .int .i64 n] w fun e w' => ∃ v, e = .returned v ∧ OwnG 50 w' w.heap.size v T [] ∧ Below w.heap.size w w' := by
  obtain ⟨i0, hi, hz0, hz1, hz2⟩ := info_parts tyG.i
  have hrun := Lib.run_append_nil_zeros (P := Try.prog) w 26 3 26 50 i0 (.agg #[.int .u64 0, .string ⟨#[]⟩]) .i64 .i64 Try.underlying26 Try.underlying3 hi hz0 n h0 (by omega) (by omega) (by rw [hz2]; omega)
  have HR := Lib.hid hrun
  have hcg := grownCap_ge w n 0 50
  have hcm := grownCap_le_maxLen w n 0 50 (by unfold maxLen; omega)
  clear hrun hi hz0 hz1 hz2
  generalize hcap : grownCap w n 0 50 = cap at *
  have HCM := Lib.hid hcm
  have hcm2 : (cap : Int) ≤ 9223372036854775807 := by unfold maxLen at hcm; omega
  have hn0 : ¬ n = 0 := by omega
  clear hcm hcap
  go_enter Try.func32, Try.ntmps32
  go_wp2_with (at_builtin; refine Lib.wpList_append_run _ rfl _ _ _ _ rfl _ _ rfl rfl _ _ HR.out ?_)
  go_ret
  refine ⟨_, rfl, ?_, ((Below.refl w.heap.size w).drew).alloc (Nat.le_refl _) _⟩
  have := World.ownsRow_made (base := w.heap.size) (e := 50) (size := 2) w.drew (Builtin.zeroCells (Value.agg #[.int .u64 0, .string ⟨#[]⟩]).cells n ++ Builtin.zeroCells (Value.agg #[.int .u64 0, .string ⟨#[]⟩]).cells (cap - n)) cap (Nat.le_refl _) HCM.out (by rw [Array.size_append, size_zeroCells, size_zeroCells]; simp [Value.cells]; omega)
  exact this
theorem growG_any (T : ByteArray) (n : Nat) (hn : n ≤ 1000) (w : World) : Calls Try.prog 32 #[.slice none 0 0, .int .i64 n] w fun e w' => ∃ v, e = .returned v ∧ OwnG 50 w' w.heap.size v T [] ∧ Below w.heap.size w w' := by
  rcases Nat.eq_zero_or_pos n with rfl | h
  · exact growG_zero T w
  · exact growG_some T n hn h w

set_option maxHeartbeats 2000000 in
theorem concatG_any (T : ByteArray) (bb : Nat) (a1 : Option Addr) (c1 : Nat) (l1 : List Ran) (a2 : Option Addr) (c2 : Nat) (l2 : List Ran) (w : World) (hbb : bb < w.heap.size)
    (h1 : w.cell? ⟨bb, 0, none⟩ = some (.slice a1 l1.length c1)) (h2 : w.cell? ⟨bb, 1, none⟩ = some (.slice a2 l2.length c2)) (hr1 : RowG w (.slice a1 l1.length c1) T l1) (hr2 : RowG w (.slice a2 l2.length c2) T l2) (hl1 : l1.length ≤ 300) (hl2 : l2.length ≤ 300) :
    Calls Try.prog 24 #[.slice (some ⟨bb, 0, none⟩) 2 2] w fun e w' => ∃ v, e = .returned v ∧ OwnG 50 w' w.heap.size v T (l1 ++ l2) ∧ Below w.heap.size w w' := by
  have HR1 := Lib.hid hr1
  have HR2 := Lib.hid hr2
  clear hr1 hr2
  go_enter Try.func24, Try.ntmps24
  go_wp2
  refine wp_loop_rounds 3 ?_
  rw [rounds_succ]
  go_wp2_with fail
  rw [rounds_succ]
  go_wp2_with fail
  rw [rounds_succ]
  go_wp2_with fail
  have hg := growG_any T (l1.length + l2.length) (by omega) w
  rw [show ((l1.length + l2.length : Nat) : Int) = (l1.length : Int) + l2.length by omega] at hg
  refine hg.mono ?_
  rintro e w1 ⟨v0, rfl, o1, b1⟩
  obtain ⟨a3, c3, rfl⟩ := o1.form
  have hz1' := b1.size
  have k1 := (b1.cell (p := ⟨bb, 0, none⟩) hbb).trans h1
  have k2 := (b1.cell (p := ⟨bb, 1, none⟩) hbb).trans h2
  have O1 := Lib.hid o1
  have B1 := Lib.hid b1
  have R1 := Lib.hid (HR1.out.go b1)
  clear o1 b1 hg h1 h2
  go_wp2
  refine wp_loop_rounds 3 ?_
  rw [rounds_succ]
  go_wp2_with (at_builtin; refine wpList_append_G tyG T _ rfl _ _ rfl w.heap.size (.slice a3 0 c3) rfl [] O1.out (.slice a1 l1.length c1) rfl l1 R1.out (by simp; omega) (by omega) ?_)
  intro a4 n4 c4 w2 o2 g2 _
  have B2 := Lib.hid (B1.out.grown g2 (by omega) (fun k hk => (O1.out.lt hk).1))
  have O2 := Lib.hid o2
  have R2 := Lib.hid (HR2.out.go B2.out)
  have hz2' := B2.out.size
  have hbb1 : bb < w1.heap.size := by omega
  have k3 : w2.cell? ⟨bb, 1, none⟩ = some (.slice a2 l2.length c2) := g2.cell k2 (fun h => by have := (O1.out.lt h.symm).1; simp only at this; omega)
  clear o2 g2 k1 k2
  go_wp2_with fail
  rw [rounds_succ]
  go_wp2_with (at_builtin; refine wpList_append_G tyG T _ rfl _ _ rfl w.heap.size (.slice a4 n4 c4) rfl ([] ++ l1) O2.out (.slice a2 l2.length c2) rfl l2 R2.out (by simp; omega) (by omega) ?_)
  intro a5 n5 c5 w3 o3 g3 _
  have B3 := Lib.hid (B2.out.grown g3 (by omega) (fun k hk => (O2.out.lt hk).1))
  have O3 := Lib.hid o3
  clear o3 g3 k3
  go_wp2_with fail
  rw [rounds_succ]
  go_wp2
  go_ret
  exact ⟨_, rfl, O3.out, B3.out⟩

set_option maxHeartbeats 1000000 in
theorem cloneG_nil (T : ByteArray) (c : Nat) (w : World) :
    Calls Try.prog 23 #[.slice none 0 c] w fun e w' => ∃ v, e = .returned v ∧ OwnG 50 w' w.heap.size v T [] ∧ Below w.heap.size w w' := by
  have qT : ∀ (w : World) (a : Option Addr) (n c n' c' : Nat), (binOp .eql 26 (.slice a n c) (.slice none n' c')).run Try.prog w = .ok (.bool a.isNone) w := fun w a n c n' c' => Lib.run_eql_slice_nil w _ _ a n c n' c' Try.underlying26
  go_enter Try.func23, Try.ntmps23
  go_wp2
  go_ret
  exact ⟨_, rfl, OwnG.nil _ _ _ _, Below.refl _ _⟩
set_option maxHeartbeats 2000000 in
theorem cloneG_row (T : ByteArray) (a : Addr) (n c : Nat) (l : List Ran) (w : World) (hn : l.length = n) (hl : n ≤ 1000) (hrd : RowG w (.slice (some a) n c) T l) :
    Calls Try.prog 23 #[.slice (some a) n c] w fun e w' => ∃ v, e = .returned v ∧ OwnG 50 w' w.heap.size v T l ∧ Below w.heap.size w w' := by
  have qT : ∀ (w : World) (a : Option Addr) (n c n' c' : Nat), (binOp .eql 26 (.slice a n c) (.slice none n' c')).run Try.prog w = .ok (.bool a.isNone) w := fun w a n c n' c' => Lib.run_eql_slice_nil w _ _ a n c n' c' Try.underlying26
  subst hn
  have HB0 := Lib.hid ((Below.refl w.heap.size w).alloc (Nat.le_refl _) (.cells #[] 50))
  have HR := Lib.hid (hrd.go HB0.out)
  have HO := Lib.hid (ownG_made w 50 T)
  clear hrd
  go_enter Try.func23, Try.ntmps23
  go_wp2_with (at_builtin; refine wpList_append_G tyG T _ rfl _ _ rfl w.heap.size _ rfl [] HO.out (.slice (some a) l.length c) rfl l HR.out (by simp; omega) (by simp) ?_)
  intro a4 n4 c4 w2 o2 g2 _
  have B2 := Lib.hid (HB0.out.grown g2 (by simp) (fun k hk => (HO.out.lt hk).1))
  have O2 := Lib.hid o2
  clear o2 g2
  go_wp2_with fail
  go_ret
  exact ⟨_, rfl, O2.out, B2.out⟩
theorem cloneG_any (T : ByteArray) (a : Option Addr) (n c : Nat) (l : List Ran) (w : World) (hn : l.length = n) (hl : n ≤ 1000) (hrd : RowG w (.slice a n c) T l) :
    Calls Try.prog 23 #[.slice a n c] w fun e w' => ∃ v, e = .returned v ∧ OwnG 50 w' w.heap.size v T l ∧ Below w.heap.size w w' := by
  cases a with
  | some a => exact cloneG_row T a n c l w hn hl hrd
  | none =>
    obtain ⟨a', cap, e, _, h⟩ := hrd
    have : l = [] := by
      apply Classical.byContradiction
      intro hne
      obtain ⟨b, off, e2, _⟩ := h hne
      rw [e2] at e
      cases e
    subst this
    obtain rfl : n = 0 := hn.symm
    exact cloneG_nil T c w
end Go.Proofs.Ytndnlpohdimgaaa.Rg
