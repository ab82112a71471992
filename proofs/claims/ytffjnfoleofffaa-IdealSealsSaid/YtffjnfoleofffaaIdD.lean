/- The walks of layer 10: rows of entries; Grow, Concat. By hand, after layer 3's and layer 6's. -/
import Derived.Test.YtffjnfoleofffaaIdC
import Derived.Maps.AppendAt
import Derived.Lib.AppendZeros
import Derived.Laws.OwnMore
namespace Go.Proofs.Ytffjnfoleofffaa.Id
open Go.RowKit Vm
set_option linter.unusedVariables false
set_option linter.unusedSimpArgs false

/-- An entry of a box. -/
structure Ent where
  fr : Int
  num : Nat
  bytes : ByteArray
  plain : ByteArray
def eZ : Ent := ⟨0, 0, ⟨#[]⟩, ⟨#[]⟩⟩
def ecs (e : Ent) : List Value := [.int .i64 e.fr, .int .u64 e.num, .string e.bytes, .string e.plain]
def flatE (G : List Ent) : List Value := G.flatMap ecs
theorem flatE_len (G : List Ent) : (flatE G).length = G.length * 4 := by
  induction G with
  | nil => rfl
  | cons f G ih =>
    show (ecs f ++ flatE G).length = (G.length + 1) * 4
    rw [List.length_append, ih, show (ecs f).length = 4 from rfl]
    omega
theorem flatE_app (G H : List Ent) : flatE (G ++ H) = flatE G ++ flatE H := by simp [flatE]
theorem flatE_get : ∀ (G : List Ent) (i j : Nat), i < G.length → j < 4 → (flatE G)[i * 4 + j]? = (ecs (G.getD i eZ))[j]?
  | [], i, j, h, _ => by simp at h
  | f :: G, 0, j, _, hj => by
    show (ecs f ++ flatE G)[0 * 4 + j]? = _
    rw [List.getElem?_append_left (by show 0 * 4 + j < 4; omega), Nat.zero_mul, Nat.zero_add]
    rfl
  | f :: G, i + 1, j, h, hj => by
    show (ecs f ++ flatE G)[(i + 1) * 4 + j]? = _
    rw [List.getElem?_append_right (by show 4 ≤ (i + 1) * 4 + j; omega), show (i + 1) * 4 + j - (ecs f).length = i * 4 + j by show (i + 1) * 4 + j - 4 = _; omega]
    exact flatE_get G i j (by simpa using h) hj
theorem ecs_one (f : Ent) : ∀ u ∈ ecs f, u.oneCell' = true := by
  intro u hu
  simp only [ecs, List.mem_cons, List.not_mem_nil, or_false] at hu
  rcases hu with rfl | rfl | rfl | rfl <;> rfl
theorem flatE_one (G : List Ent) : ∀ u ∈ flatE G, u.oneCell' = true := by
  intro u hu
  obtain ⟨f, _, hf⟩ := List.mem_flatMap.1 hu
  exact ecs_one f u hf
/-- A row of entries that the call owns. -/
def OwnE (T : TypeId) (w : World) (B : Nat) (v : Value) (G : List Ent) : Prop := w.ownsRow B T 4 v G.length (flatE G)
/-- What a type of entries and its slices have to be. -/
structure TyE (T SL : TypeId) : Prop where
  u : Try.prog.underlying SL = some (.slice T)
  i : (Try.prog.info? T).map (fun i => (i.zero, i.size, i.bytes)) = some (some (.agg #[.int .i64 0, .int .u64 0, .string ⟨#[]⟩, .string ⟨#[]⟩]), 4, 48)
theorem tyP : TyE 64 29 := ⟨Try.underlying29, by kernel_rfl⟩
theorem tyD : TyE 66 33 := ⟨Try.underlying33, by kernel_rfl⟩
/-- A row of entries that one reads. -/
def RowE (W : World) (v : Value) (G : List Ent) : Prop := ∃ a cap, v = .slice a G.length cap ∧ G.length ≤ cap ∧ (G ≠ [] → ∃ b off, a = some ⟨b, off, none⟩ ∧ b < W.heap.size ∧ ∀ i, i < G.length → ∀ j, j < 4 → W.cell? ⟨b, off + (i * 4 + j), none⟩ = (ecs (G.getD i eZ))[j]?)
theorem RowE.go {W W' : World} {v : Value} {G : List Ent} (h : RowE W v G) (hb : Below W.heap.size W W') : RowE W' v G := by
  obtain ⟨a, cap, hv, hc, hr⟩ := h
  refine ⟨a, cap, hv, hc, fun hne => ?_⟩
  obtain ⟨b, off, ha, hlt, hcl⟩ := hr hne
  exact ⟨b, off, ha, Nat.lt_of_lt_of_le hlt hb.size, fun i hi j hj => (hb.cell (p := ⟨b, off + (i * 4 + j), none⟩) hlt).trans (hcl i hi j hj)⟩
theorem RowE.nil (W : World) : RowE W (.slice none 0 0) [] := ⟨none, 0, rfl, Nat.le_refl _, fun h => absurd rfl h⟩
theorem OwnE.row {T : TypeId} {W : World} {B : Nat} {v : Value} {G : List Ent} (h : OwnE T W B v G) : RowE W v G := by
  have h0 := h
  rcases h.2 with ⟨hv, hz⟩ | ⟨g, cap, cur, hv, hb, hg, hnc, r⟩
  · have hl : G = [] := List.eq_nil_of_length_eq_zero hz
    subst hl
    exact ⟨none, 0, hv, Nat.le_refl _, fun h => absurd rfl h⟩
  · subst hv
    refine ⟨some ⟨g, 0, none⟩, cap, rfl, hnc, fun _ => ⟨g, 0, rfl, (Array.getElem?_eq_some_iff.1 hg).1, fun i hi j hj => ?_⟩⟩
    have hlen := flatE_len G
    rw [Nat.zero_add]
    exact (World.ownsRow.cellAt h0 (i * 4 + j) (by omega)).trans (flatE_get G i j hi hj)
theorem OwnE.form {T : TypeId} {W : World} {B : Nat} {v : Value} {G : List Ent} (h : OwnE T W B v G) : ∃ a c, v = .slice a G.length c := by
  rcases h.2 with ⟨hv, hz⟩ | ⟨g, cap, cur, hv, _⟩
  · exact ⟨none, 0, by rw [hv, hz]⟩
  · exact ⟨_, _, hv⟩
theorem OwnE.lt {T : TypeId} {W : World} {B : Nat} {v : Value} {G : List Ent} (h : OwnE T W B v G) {k : Nat} (hk : v.ownBlock = some k) : B ≤ k ∧ k < W.heap.size := World.ownsRow.lt h k hk
theorem row_cells {W : World} {b off : Nat} {G : List Ent} (h : ∀ i, i < G.length → ∀ j, j < 4 → W.cell? ⟨b, off + (i * 4 + j), none⟩ = (ecs (G.getD i eZ))[j]?) :
    ∀ j u, (flatE G)[j]? = some u → W.cell? ((⟨b, off, none⟩ : Addr).add j) = some u := by
  intro j u hu
  have hj : j < G.length * 4 := by rw [← flatE_len]; exact (List.getElem?_eq_some_iff.1 hu).1
  have hq : j / 4 < G.length := by omega
  have h1 := h (j / 4) hq (j % 4) (by omega)
  have h2 := flatE_get G (j / 4) (j % 4) hq (by omega)
  rw [show j / 4 * 4 + j % 4 = j by omega] at h1 h2
  rw [Addr.add_lit, h1, ← h2, hu]
theorem run_append_none {P : Program} {w : World} (base : Nat) (t ty e : TypeId) (i : TypeInfo) (size c : Nat) (ht : P.underlying t = some (.slice e)) (hi : P.info? e = some i)
    (v : Value) (n : Nat) (xs : List Value) (hown : w.ownsRow base e size v n xs) :
    (Builtin.append_ #[t, t] ty #[v, .slice none 0 c]).run P w = .ok v w := by
  rcases hown.2 with ⟨rfl, rfl⟩ | ⟨g, cap, cur, rfl, _, _, hnc, _⟩
  · simp [Builtin.append_, run_underlying ht, sizeOf, typeInfo, hi, Builtin.lenOf, Builtin.firstCells]
  · simp [Builtin.append_, run_underlying ht, sizeOf, typeInfo, hi, Builtin.lenOf, Builtin.firstCells, hnc, storeCells]
/-- Appending entries that are read to a row of our own. -/
theorem run_append_E {T SL : TypeId} (hT : TyE T SL) (w : World) (base : Nat) (ty : TypeId) (v : Value) (l : List Ent) (hown : OwnE T w base v l) (u : Value) (m : List Ent) (hr : RowE w u m) (hlen : l.length + m.length ≤ 100000) (hbase : base ≤ w.heap.size) :
    ∃ v' w', (Builtin.append_ #[SL, SL] ty #[v, u]).run Try.prog w = .ok v' w' ∧ OwnE T w' base v' (l ++ m) ∧ w.grownBy w' v.ownBlock ∧ (v'.ownBlock = v.ownBlock ∨ v'.ownBlock = some w.heap.size) := by
  obtain ⟨i0, hi, hz0, hz1, hz2⟩ := info_parts hT.i
  obtain ⟨a, cap, rfl, hcap, hrow⟩ := hr
  have fin : ∀ (ad : Addr), a = some ad → (∀ j u, (flatE m)[j]? = some u → w.cell? (ad.add j) = some u) →
      ∃ v' w', (Builtin.append_ #[SL, SL] ty #[v, .slice a m.length cap]).run Try.prog w = .ok v' w' ∧ OwnE T w' base v' (l ++ m) ∧ w.grownBy w' v.ownBlock ∧ (v'.ownBlock = v.ownBlock ∨ v'.ownBlock = some w.heap.size) := by
    intro ad ha hc
    obtain ⟨v', w', h1, h2, h3, _, h4⟩ := run_append_own_at (P := Try.prog) w base SL ty T i0 (.agg #[.int .i64 0, .int .u64 0, .string ⟨#[]⟩, .string ⟨#[]⟩]) 4 48 hT.u hi hz0 hz1 hz2 rfl (by decide) v l.length (flatE l) hown ad m.length cap (flatE m) (flatE_len m) hc (flatE_one m) (by unfold maxLen; omega) (by omega) hbase
    refine ⟨v', w', by rw [ha]; exact h1, ?_, h3, h4⟩
    unfold OwnE
    rw [List.length_append, flatE_app]
    exact h2
  by_cases hnil : m = []
  · subst hnil
    cases a with
    | none => exact ⟨v, w, run_append_none base SL ty T i0 4 cap hT.u hi v l.length (flatE l) hown, by rw [List.append_nil]; exact hown, ⟨rfl, rfl, rfl, Nat.le_refl _, fun _ _ _ => rfl⟩, .inl rfl⟩
    | some ad => exact fin ad rfl (fun j u h => by simp [flatE] at h)
  · obtain ⟨b, off, rfl, hb, hc⟩ := hrow hnil
    exact fin _ rfl (row_cells hc)
theorem wpList_append_E {T SL : TypeId} (hT : TyE T SL) (w : World) {ops : Array Oper} {rest : List Oper} {o : Oper} {a : Act} {Q : Exit → Act → World → Prop} (hgd : o.guard = none) (s x : Operand)
    (ho : o.op = .call { callee := .builtin .append, args := #[s, x], argTypes := #[SL, SL] })
    (base : Nat) (v : Value) (hs : a.eval s = v) (l : List Ent) (hown : OwnE T w base v l) (u : Value) (hx : a.eval x = u) (m : List Ent) (hr : RowE w u m) (hlen : l.length + m.length ≤ 100000) (hbase : base ≤ w.heap.size)
    (h : ∀ a' n' c' w', OwnE T w' base (.slice a' n' c') (l ++ m) → w.grownBy w' v.ownBlock → ((Value.slice a' n' c').ownBlock = v.ownBlock ∨ (Value.slice a' n' c').ownBlock = some w.heap.size) → wpList Try.prog ops Q rest (a.put o.dst (.slice a' n' c')) w') :
    wpList Try.prog ops Q (o :: rest) a w := by
  obtain ⟨v', w', hrun, h1, h2, h3⟩ := run_append_E hT w base o.type v l hown u m hr hlen hbase
  obtain ⟨a', c', rfl⟩ := h1.form
  exact Lib.wpList_append_run w hgd s x SL SL ho v u hs hx _ w' hrun (h _ _ _ _ h1 h2 h3)
theorem OwnE.nil (T : TypeId) (W : World) (B : Nat) : OwnE T W B (.slice none 0 0) [] := ⟨rfl, .inl ⟨rfl, rfl⟩⟩
/-- One entry in a new row. -/
theorem row_one (W : World) (T : TypeId) (e : Ent) : RowE (W.alloc (.cells #[.int .i64 e.fr, .int .u64 e.num, .string e.bytes, .string e.plain] T)) (.slice (some ⟨W.heap.size, 0, none⟩) 1 1) [e] :=
  ⟨_, 1, rfl, Nat.le_refl _, fun _ => ⟨_, 0, rfl, by simp, fun i hi j hj => by
    obtain rfl : i = 0 := by simp at hi; omega
    have : j = 0 ∨ j = 1 ∨ j = 2 ∨ j = 3 := by omega
    rcases this with rfl | rfl | rfl | rfl <;> simp [go_sem, ecs]⟩⟩

set_option maxHeartbeats 1000000 in
theorem grow_zero (w : World) : Calls Try.prog 39 #[.slice none 0 0, .int .i64 0] w fun e w' => ∃ v, e = .returned v ∧ OwnE 64 w' w.heap.size v [] ∧ Below w.heap.size w w' := by
  go_enter Try.func39, Try.ntmps39
  go_wp2
  go_ret
  exact ⟨_, rfl, OwnE.nil _ _ _, Below.refl _ _⟩
set_option maxHeartbeats 1000000 in
theorem grow_some (n : Nat) (hn : n ≤ 1000) (h0 : 0 < n) (w : World) : Calls Try.prog 39 #[.slice none 0 0, .int .i64 n] w fun e w' => ∃ v, e = .returned v ∧ OwnE 64 w' w.heap.size v [] ∧ Below w.heap.size w w' := by
  obtain ⟨i0, hi, hz0, hz1, hz2⟩ := info_parts tyP.i
  have hrun := Lib.run_append_nil_zeros (P := Try.prog) w 29 3 29 64 i0 (.agg #[.int .i64 0, .int .u64 0, .string ⟨#[]⟩, .string ⟨#[]⟩]) .i64 .i64 Try.underlying29 Try.underlying3 hi hz0 n h0 (by omega) (by omega) (by rw [hz2]; omega)
  have HR := Lib.hid hrun
  have hcg := grownCap_ge w n 0 64
  have hcm := grownCap_le_maxLen w n 0 64 (by unfold maxLen; omega)
  clear hrun hi hz0 hz1 hz2
  generalize hcap : grownCap w n 0 64 = cap at *
  have HCM := Lib.hid hcm
  have hcm2 : (cap : Int) ≤ 9223372036854775807 := by unfold maxLen at hcm; omega
  have hn0 : ¬ n = 0 := by omega
  clear hcm hcap
  go_enter Try.func39, Try.ntmps39
  go_wp2_with (at_builtin; refine Lib.wpList_append_run _ rfl _ _ _ _ rfl _ _ rfl rfl _ _ HR.out ?_)
  go_ret
  refine ⟨_, rfl, ?_, ((Below.refl w.heap.size w).drew).alloc (Nat.le_refl _) _⟩
  have := World.ownsRow_made (base := w.heap.size) (e := 64) (size := 4) w.drew (Builtin.zeroCells (Value.agg #[.int .i64 0, .int .u64 0, .string ⟨#[]⟩, .string ⟨#[]⟩]).cells n ++ Builtin.zeroCells (Value.agg #[.int .i64 0, .int .u64 0, .string ⟨#[]⟩, .string ⟨#[]⟩]).cells (cap - n)) cap (Nat.le_refl _) HCM.out (by rw [Array.size_append, size_zeroCells, size_zeroCells]; simp [Value.cells]; omega)
  exact this
theorem grow_any (n : Nat) (hn : n ≤ 1000) (w : World) : Calls Try.prog 39 #[.slice none 0 0, .int .i64 n] w fun e w' => ∃ v, e = .returned v ∧ OwnE 64 w' w.heap.size v [] ∧ Below w.heap.size w w' := by
  rcases Nat.eq_zero_or_pos n with rfl | h
  · exact grow_zero w
  · exact grow_some n hn h w

set_option maxHeartbeats 2000000 in
theorem concat_any (bb : Nat) (a1 : Option Addr) (c1 : Nat) (l1 : List Ent) (a2 : Option Addr) (c2 : Nat) (l2 : List Ent) (w : World) (hbb : bb < w.heap.size)
    (h1 : w.cell? ⟨bb, 0, none⟩ = some (.slice a1 l1.length c1)) (h2 : w.cell? ⟨bb, 1, none⟩ = some (.slice a2 l2.length c2)) (hr1 : RowE w (.slice a1 l1.length c1) l1) (hr2 : RowE w (.slice a2 l2.length c2) l2) (hl1 : l1.length ≤ 300) (hl2 : l2.length ≤ 300) :
    Calls Try.prog 30 #[.slice (some ⟨bb, 0, none⟩) 2 2] w fun e w' => ∃ v, e = .returned v ∧ OwnE 64 w' w.heap.size v (l1 ++ l2) ∧ Below w.heap.size w w' := by
  have HR1 := Lib.hid hr1
  have HR2 := Lib.hid hr2
  clear hr1 hr2
  go_enter Try.func30, Try.ntmps30
  go_wp2
  refine wp_loop_rounds 3 ?_
  rw [rounds_succ]
  go_wp2_with fail
  rw [rounds_succ]
  go_wp2_with fail
  rw [rounds_succ]
  go_wp2_with fail
  have hg := grow_any (l1.length + l2.length) (by omega) w
  rw [show ((l1.length + l2.length : Nat) : Int) = (l1.length : Int) + l2.length by omega] at hg
  refine hg.mono ?_
  rintro e w1 ⟨v0, rfl, o1, b1⟩
  obtain ⟨a3, c3, rfl⟩ := o1.form
  have hz1' := b1.size
  have k1 := (b1.cell (p := ⟨bb, 0, none⟩) hbb).trans h1
  have k2 := (b1.cell (p := ⟨bb, 1, none⟩) hbb).trans h2
  have O1 := Lib.hid o1
  have B1 := Lib.hid b1
  have R1 := Lib.hid (HR1.out.go b1)
  clear o1 b1 hg h1 h2
  go_wp2
  refine wp_loop_rounds 3 ?_
  rw [rounds_succ]
  go_wp2_with (at_builtin; refine wpList_append_E tyP _ rfl _ _ rfl w.heap.size (.slice a3 0 c3) rfl [] O1.out (.slice a1 l1.length c1) rfl l1 R1.out (by simp; omega) (by omega) ?_)
  intro a4 n4 c4 w2 o2 g2 _
  have B2 := Lib.hid (B1.out.grown g2 (by omega) (fun k hk => (O1.out.lt hk).1))
  have O2 := Lib.hid o2
  have R2 := Lib.hid (HR2.out.go B2.out)
  have hz2' := B2.out.size
  have hbb1 : bb < w1.heap.size := by omega
  have k3 : w2.cell? ⟨bb, 1, none⟩ = some (.slice a2 l2.length c2) := g2.cell k2 (fun h => by have := (O1.out.lt h.symm).1; simp only at this; omega)
  clear o2 g2 k1 k2
  go_wp2_with fail
  rw [rounds_succ]
  go_wp2_with (at_builtin; refine wpList_append_E tyP _ rfl _ _ rfl w.heap.size (.slice a4 n4 c4) rfl ([] ++ l1) O2.out (.slice a2 l2.length c2) rfl l2 R2.out (by simp; omega) (by omega) ?_)
  intro a5 n5 c5 w3 o3 g3 _
  have B3 := Lib.hid (B2.out.grown g3 (by omega) (fun k hk => (O2.out.lt hk).1))
  have O3 := Lib.hid o3
  clear o3 g3 k3
  go_wp2_with fail
  rw [rounds_succ]
  go_wp2
  go_ret
  exact ⟨_, rfl, O3.out, B3.out⟩
end Go.Proofs.Ytffjnfoleofffaa.Id
