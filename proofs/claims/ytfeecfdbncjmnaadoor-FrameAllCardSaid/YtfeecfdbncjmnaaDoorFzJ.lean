/- Layer 6: FaA, FaB, FaC, FaD, joined by tools/pack.py. -/
import Derived.Test.YtfeecfdbncjmnaaDoorFzB
import Derived.Maps.AppendAt
import Derived.Room.AppendZeros
import Derived.Test.YtfeecfdbncjmnaaDoorFzI
import Derived.Deep.RegionHeld3
namespace Go.Proofs.YtfeecfdbncjmnaaDoor.Fm
set_option maxRecDepth 20000
open Go.RowKit Vm
set_option linter.unusedVariables false
set_option linter.unusedSimpArgs false
section
/-- A frame's cells. -/
def fcs (f : Frm) : List Value := [.int .u64 f.kind, .int .u64 f.id, .int .u64 f.off, .int .u64 f.max, .int .u64 f.code, .int .u64 f.seq, .int .u64 f.prior, .int .u64 f.delay, .bool f.fin, .string ⟨f.data.toArray⟩, .string ⟨f.cid.toArray⟩, .string ⟨f.token.toArray⟩, .slice f.set.a f.set.n f.set.c]
def flatF (G : List Frm) : List Value := G.flatMap fcs
theorem flatF_len (G : List Frm) : (flatF G).length = G.length * 13 := by
  induction G with
  | nil => rfl
  | cons f G ih =>
    show (fcs f ++ flatF G).length = (G.length + 1) * 13
    rw [List.length_append, ih, show (fcs f).length = 13 from rfl]
    omega
theorem flatF_app (G H : List Frm) : flatF (G ++ H) = flatF G ++ flatF H := by simp [flatF]
theorem flatF_get : ∀ (G : List Frm) (i j : Nat), i < G.length → j < 13 → (flatF G)[i * 13 + j]? = (fcs (G.getD i frZ))[j]?
  | [], i, j, h, _ => by simp at h
  | f :: G, 0, j, _, hj => by
    show (fcs f ++ flatF G)[0 * 13 + j]? = _
    rw [List.getElem?_append_left (by show 0 * 13 + j < 13; omega), Nat.zero_mul, Nat.zero_add]
    rfl
  | f :: G, i + 1, j, h, hj => by
    show (fcs f ++ flatF G)[(i + 1) * 13 + j]? = _
    rw [List.getElem?_append_right (by show 13 ≤ (i + 1) * 13 + j; omega), show (i + 1) * 13 + j - (fcs f).length = i * 13 + j by show (i + 1) * 13 + j - 13 = _; omega]
    exact flatF_get G i j (by simpa using h) hj
theorem fcs_one (f : Frm) : ∀ u ∈ fcs f, u.oneCell' = true := by
  intro u hu
  simp only [fcs, List.mem_cons, List.not_mem_nil, or_false] at hu
  rcases hu with rfl | rfl | rfl | rfl | rfl | rfl | rfl | rfl | rfl | rfl | rfl | rfl | rfl <;> rfl
def OwnF (T : TypeId) (w : World) (B : Nat) (v : Value) (G : List Frm) : Prop := w.ownsRow B T 13 v G.length (flatF G)
/-- What a type of frames and its slices have to be. -/
structure TyF (T SL : TypeId) : Prop where
  u : Tryd.prog.underlying SL = some (.slice T)
  i : (Tryd.prog.info? T).map (fun i => (i.zero, i.size, i.bytes)) = some (some (.agg #[.int .u64 0, .int .u64 0, .int .u64 0, .int .u64 0, .int .u64 0, .int .u64 0, .int .u64 0, .int .u64 0, .bool false, .string ⟨#[]⟩, .string ⟨#[]⟩, .string ⟨#[]⟩, .slice none 0 0]), 13, 144)
theorem tyP : TyF 27 37 := ⟨Tryd.underlying37, by kernel_rfl⟩
theorem tyD : TyF 34 40 := ⟨Tryd.underlying40, by kernel_rfl⟩
theorem push_F {T SL : TypeId} (hT : TyF T SL) (w : World) (B : Nat) (v : Value) (G : List Frm) (f : Frm) (ty : TypeId) (h : OwnF T w B v G) (hl : G.length ≤ 1000) (hb : B ≤ w.heap.size) :
    ∃ v' w', (Builtin.append_ #[SL, SL] ty #[v, .slice (some ⟨w.heap.size, 0, none⟩) 1 1]).run Tryd.prog (w.alloc (.cells #[.int .u64 f.kind, .int .u64 f.id, .int .u64 f.off, .int .u64 f.max, .int .u64 f.code, .int .u64 f.seq, .int .u64 f.prior, .int .u64 f.delay, .bool f.fin, .string ⟨f.data.toArray⟩, .string ⟨f.cid.toArray⟩, .string ⟨f.token.toArray⟩, .slice f.set.a f.set.n f.set.c] T)) = .ok v' w' ∧ OwnF T w' B v' (G ++ [f]) ∧ Below B w w' ∧ (∀ K, K < w.heap.size → v.ownBlock ≠ some K → w'.heap[K]? = w.heap[K]?) ∧ (∀ K, K < w.heap.size → v.ownBlock ≠ some K → v'.ownBlock ≠ some K) := by
  obtain ⟨i0, hi, hz0, hz1, hz2⟩ := info_parts hT.i
  have ho : (w.alloc (.cells #[.int .u64 f.kind, .int .u64 f.id, .int .u64 f.off, .int .u64 f.max, .int .u64 f.code, .int .u64 f.seq, .int .u64 f.prior, .int .u64 f.delay, .bool f.fin, .string ⟨f.data.toArray⟩, .string ⟨f.cid.toArray⟩, .string ⟨f.token.toArray⟩, .slice f.set.a f.set.n f.set.c] T)).ownsRow B T 13 v G.length (flatF G) := World.ownsRow.alloc h _
  obtain ⟨v', w', hr, h1, h2, h3, h4⟩ := run_append_own_at (P := Tryd.prog) (w.alloc (.cells #[.int .u64 f.kind, .int .u64 f.id, .int .u64 f.off, .int .u64 f.max, .int .u64 f.code, .int .u64 f.seq, .int .u64 f.prior, .int .u64 f.delay, .bool f.fin, .string ⟨f.data.toArray⟩, .string ⟨f.cid.toArray⟩, .string ⟨f.token.toArray⟩, .slice f.set.a f.set.n f.set.c] T)) B SL ty T i0 (.agg #[.int .u64 0, .int .u64 0, .int .u64 0, .int .u64 0, .int .u64 0, .int .u64 0, .int .u64 0, .int .u64 0, .bool false, .string ⟨#[]⟩, .string ⟨#[]⟩, .string ⟨#[]⟩, .slice none 0 0]) 13 144 hT.u hi hz0 hz1 hz2 rfl (by decide) v G.length (flatF G) ho ⟨w.heap.size, 0, none⟩ 1 1 (fcs f) rfl
    (by
      intro j u hu
      have e : (⟨w.heap.size, 0, none⟩ : Addr).add j = ⟨w.heap.size, j, none⟩ := by unfold Addr.add; split <;> simp_all
      have hn : (w.alloc (.cells #[.int .u64 f.kind, .int .u64 f.id, .int .u64 f.off, .int .u64 f.max, .int .u64 f.code, .int .u64 f.seq, .int .u64 f.prior, .int .u64 f.delay, .bool f.fin, .string ⟨f.data.toArray⟩, .string ⟨f.cid.toArray⟩, .string ⟨f.token.toArray⟩, .slice f.set.a f.set.n f.set.c] T)).heap[w.heap.size]? = some (.cells #[.int .u64 f.kind, .int .u64 f.id, .int .u64 f.off, .int .u64 f.max, .int .u64 f.code, .int .u64 f.seq, .int .u64 f.prior, .int .u64 f.delay, .bool f.fin, .string ⟨f.data.toArray⟩, .string ⟨f.cid.toArray⟩, .string ⟨f.token.toArray⟩, .slice f.set.a f.set.n f.set.c] T) := World.alloc_heap_new w _
      rw [e, Lib.cell_of_heap hn j, ← hu]
      show ((fcs f).toArray)[j]? = _
      rw [List.getElem?_toArray]) (fcs_one f) (by unfold maxLen; omega) (by omega) (by simp; omega)
  have e : flatF (G ++ [f]) = flatF G ++ fcs f := by rw [flatF_app]; simp [flatF]
  refine ⟨v', w', hr, ?_, ?_, ?_, ?_⟩
  · unfold OwnF
    rw [e, List.length_append]
    exact h1
  · exact ((Below.refl _ _).alloc hb _).grown h2 (by simp; omega) (fun k hk => (World.ownsRow.lt h k hk).1)
  · intro K hK hne
    refine (h2.block K (by simp; omega) (fun he => hne he.symm)).trans ?_
    exact Lib.alloc_old w _ K hK
  · intro K hK hne he
    rcases h4 with h4 | h4
    · exact hne (h4.symm.trans he)
    · rw [h4, World.size_alloc] at he
      injection he with he
      omega
theorem rd_block {w w' : World} {a : Option Addr} {n c : Nat} {l : List Ran} (h : Rd w (.slice a n c) l) (hb : l ≠ [] → ∀ x, a = some x → w'.heap[x.block]? = w.heap[x.block]?) : Rd w' (.slice a n c) l := by
  obtain ⟨a', cap, hv, hcap, hrow⟩ := h
  refine ⟨a', cap, hv, hcap, fun hne => ?_⟩
  obtain ⟨b, off, ha, hc⟩ := hrow hne
  injection hv with e1 e2 e3
  have he := hb hne ⟨b, off, none⟩ (e1.trans ha)
  exact ⟨b, off, ha, fun i hi => ⟨(World.cell?_of_block (a := ⟨b, off + i * 2, none⟩) he).trans (hc i hi).1, (World.cell?_of_block (a := ⟨b, off + i * 2 + 1, none⟩) he).trans (hc i hi).2⟩⟩
theorem rd_lt {w : World} {a : Option Addr} {n c : Nat} {l : List Ran} (h : Rd w (.slice a n c) l) (hne : l ≠ []) (x : Addr) (hx : a = some x) : x.block < w.heap.size := by
  obtain ⟨a', cap, hv, hcap, hrow⟩ := h
  obtain ⟨b, off, ha, hc⟩ := hrow hne
  injection hv with e1 e2 e3
  rw [e1, ha] at hx
  injection hx with hx
  subst hx
  exact World.block_lt_of_cell? _ _ (hc 0 (List.length_pos_iff.2 hne)).1
/-- A row of frames of the call's own, each with its ranges. -/
structure AllI (T : TypeId) (w : World) (v : Value) (G : List Frm) (Ls : List (List Ran)) (W : World) : Prop where
  own : OwnF T W w.heap.size v G
  bel : Below w.heap.size w W
  len : Ls.length = G.length
  rd : ∀ i, i < G.length → Rd W (.slice (G.getD i frZ).set.a (G.getD i frZ).set.n (G.getD i frZ).set.c) (Ls.getD i [])
  far : ∀ i, i < G.length → Ls.getD i [] ≠ [] → ∀ x, (G.getD i frZ).set.a = some x → x.block < W.heap.size ∧ v.ownBlock ≠ some x.block
theorem AllI.start (T : TypeId) (w W : World) (h : Below w.heap.size w W) : AllI T w (.slice none 0 0) [] [] W := ⟨⟨rfl, .inl ⟨rfl, rfl⟩⟩, h, rfl, fun i hi => by simp at hi, fun i hi => by simp at hi⟩
theorem own_go {w w' : World} {B : Nat} {e : TypeId} {size n : Nat} {v : Value} {xs : List Value} (h : w.ownsRow B e size v n xs) (hb : Below w.heap.size w w') : w'.ownsRow B e size v n xs := by
  refine ⟨h.1, ?_⟩
  rcases h.2 with h2 | ⟨g, cap, cur, hv, hbg, hg, r⟩
  · exact .inl h2
  · exact .inr ⟨g, cap, cur, hv, hbg, (hb.block g (Array.getElem?_eq_some_iff.1 hg).1).trans hg, r⟩
theorem AllI.go {T : TypeId} {w W W' : World} {v : Value} {G : List Frm} {Ls : List (List Ran)} (h : AllI T w v G Ls W) (hb : Below W.heap.size W W') : AllI T w v G Ls W' :=
  ⟨own_go h.own hb, h.bel.trans (hb.mono h.bel.size), h.len, fun i hi => (h.rd i hi).below hb, fun i hi hne x hx => ⟨Nat.lt_of_lt_of_le (h.far i hi hne x hx).1 hb.size, (h.far i hi hne x hx).2⟩⟩
theorem getD_last {α : Type} (l : List α) (x d : α) : (l ++ [x]).getD l.length d = x := by simp [List.getD]
theorem getD_left {α : Type} (l : List α) (x d : α) (i : Nat) (h : i < l.length) : (l ++ [x]).getD i d = l.getD i d := by simp [List.getD, List.getElem?_append_left h]
theorem AllI.push {T SL : TypeId} (hT : TyF T SL) {w W : World} {v : Value} {G : List Frm} {Ls : List (List Ran)} (h : AllI T w v G Ls W) (hl : G.length ≤ 1000) (f : Frm) (l : List Ran) (hrd : Rd W (.slice f.set.a f.set.n f.set.c) l) (hfar : l ≠ [] → ∀ x, f.set.a = some x → v.ownBlock ≠ some x.block) (ty : TypeId) :
    ∃ va vc w', (Builtin.append_ #[SL, SL] ty #[v, .slice (some ⟨W.heap.size, 0, none⟩) 1 1]).run Tryd.prog (W.alloc (.cells #[.int .u64 f.kind, .int .u64 f.id, .int .u64 f.off, .int .u64 f.max, .int .u64 f.code, .int .u64 f.seq, .int .u64 f.prior, .int .u64 f.delay, .bool f.fin, .string ⟨f.data.toArray⟩, .string ⟨f.cid.toArray⟩, .string ⟨f.token.toArray⟩, .slice f.set.a f.set.n f.set.c] T)) = .ok (.slice va (G.length + 1) vc) w' ∧ AllI T w (.slice va (G.length + 1) vc) (G ++ [f]) (Ls ++ [l]) w' := by
  obtain ⟨v', w', hr, h1, h2, h3, h4⟩ := push_F hT W w.heap.size v G f ty h.own hl h.bel.size
  obtain ⟨va, vc, rfl⟩ : ∃ va vc, v' = .slice va (G.length + 1) vc := by
    rcases h1.2 with ⟨hv, hz⟩ | ⟨g, cap, cur, hv, _⟩
    · rw [List.length_append] at hz
      simp at hz
    · rw [List.length_append] at hv
      exact ⟨_, _, hv⟩
  have hw := h2.size
  refine ⟨va, vc, w', hr, h1, h.bel.trans (h2.mono (Nat.le_refl _)), by simp [h.len], fun i hi => ?_, fun i hi hne x hx => ?_⟩
  · by_cases hk : i = G.length
    · subst hk
      rw [getD_last, show G.length = Ls.length from h.len.symm, getD_last]
      exact rd_block hrd (fun hne x hx => h3 x.block (rd_lt hrd hne x hx) (hfar hne x hx))
    · have hi2 : i < G.length := by rw [List.length_append] at hi; simp at hi; omega
      rw [getD_left _ _ _ _ hi2, getD_left _ _ _ _ (by rw [h.len]; exact hi2)]
      exact rd_block (h.rd i hi2) (fun hne x hx => h3 x.block (h.far i hi2 hne x hx).1 (h.far i hi2 hne x hx).2)
  · by_cases hk : i = G.length
    · subst hk
      rw [getD_last] at hx
      rw [show G.length = Ls.length from h.len.symm, getD_last] at hne
      exact ⟨Nat.lt_of_lt_of_le (rd_lt hrd hne x hx) hw, h4 x.block (rd_lt hrd hne x hx) (hfar hne x hx)⟩
    · have hi2 : i < G.length := by rw [List.length_append] at hi; simp at hi; omega
      rw [getD_left _ _ _ _ hi2] at hx
      rw [getD_left _ _ _ _ (by rw [h.len]; exact hi2)] at hne
      have := h.far i hi2 hne x hx
      exact ⟨Nat.lt_of_lt_of_le this.1 hw, h4 x.block this.1 this.2⟩
/-- A row of frames that one reads. -/
def RowF (W : World) (v : Value) (G : List Frm) : Prop := ∃ a cap, v = .slice a G.length cap ∧ G.length ≤ cap ∧ (G ≠ [] → ∃ b off, a = some ⟨b, off, none⟩ ∧ b < W.heap.size ∧ ∀ i, i < G.length → ∀ j, j < 13 → W.cell? ⟨b, off + (i * 13 + j), none⟩ = (fcs (G.getD i frZ))[j]?)
theorem RowF.go {W W' : World} {v : Value} {G : List Frm} (h : RowF W v G) (hb : Below W.heap.size W W') : RowF W' v G := by
  obtain ⟨a, cap, hv, hc, hr⟩ := h
  refine ⟨a, cap, hv, hc, fun hne => ?_⟩
  obtain ⟨b, off, ha, hlt, hcl⟩ := hr hne
  exact ⟨b, off, ha, Nat.lt_of_lt_of_le hlt hb.size, fun i hi j hj => (hb.cell (p := ⟨b, off + (i * 13 + j), none⟩) hlt).trans (hcl i hi j hj)⟩
theorem AllI.row {T : TypeId} {w W : World} {v : Value} {G : List Frm} {Ls : List (List Ran)} (h : AllI T w v G Ls W) : RowF W v G := by
  have h0 := h.own
  rcases h.own.2 with ⟨hv, hz⟩ | ⟨g, cap, cur, hv, hb, hg, hnc, r⟩
  · have hl : G = [] := List.eq_nil_of_length_eq_zero hz
    subst hl
    exact ⟨none, 0, hv, Nat.le_refl _, fun h => absurd rfl h⟩
  · subst hv
    refine ⟨some ⟨g, 0, none⟩, cap, rfl, hnc, fun _ => ⟨g, 0, rfl, (Array.getElem?_eq_some_iff.1 hg).1, fun i hi j hj => ?_⟩⟩
    have hlen := flatF_len G
    rw [Nat.zero_add]
    exact (World.ownsRow.cellAt h0 (i * 13 + j) (by omega)).trans (flatF_get G i j hi hj)
end
section
/-- A frame but for where its ranges lie. -/
def bl (f : Frm) : Frm := { f with set := ⟨none, 0, 0⟩ }
/-- The frames that bytes tell behind those that were told, in so many steps. -/
def allN : Nat → List UInt8 → List (Frm × List (Nat × Nat)) → Option (List (Frm × List (Nat × Nat)))
  | 0, _, _ => none
  | k + 1, s, acc => match getN s with
    | none => none
    | some (f, rs, r) => if 40 < (if f.kind = 0 then acc else acc ++ [(f, rs)]).length then none else if r = [] then some (if f.kind = 0 then acc else acc ++ [(f, rs)]) else allN k r (if f.kind = 0 then acc else acc ++ [(f, rs)])
/-- A row of frames is these. -/
structure Is (G : List Frm) (Ls : List (List Ran)) (acc : List (Frm × List (Nat × Nat))) : Prop where
  g : G.map bl = acc.map (fun p => bl p.1)
  l : Ls = acc.map (fun p => ints p.2)
theorem Is.len {G : List Frm} {Ls : List (List Ran)} {acc : List (Frm × List (Nat × Nat))} (h : Is G Ls acc) : G.length = acc.length := by
  have := congrArg List.length h.g
  simpa using this
theorem Is.push {G : List Frm} {Ls : List (List Ran)} {acc : List (Frm × List (Nat × Nat))} (h : Is G Ls acc) (f : Frm) (rs : List (Nat × Nat)) (sl : Sl) : Is (G ++ [{ f with set := sl }]) (Ls ++ [ints rs]) (acc ++ [(f, rs)]) :=
  ⟨by rw [List.map_append, List.map_append, h.g]; rfl, by rw [h.l, List.map_append]; rfl⟩
def AllTo (o : Option (List (Frm × List (Nat × Nat)))) (w : World) (e : Ending) (w' : World) : Prop :=
  Below w.heap.size w w' ∧ match o with
  | none => e = .returned (.tuple #[.slice none 0 0, .int .i64 60])
  | some acc => ∃ v G Ls, AllI 27 w v G Ls w' ∧ Is G Ls acc ∧ e = .returned (.tuple #[v, .int .i64 0])
theorem isE_nil {r : List UInt8} (h : r = []) : r.isEmpty = true := by rw [h]; rfl
theorem isE_not {r : List UInt8} (h : ¬ r = []) : r.isEmpty = false := List.isEmpty_eq_false_iff.2 h
theorem own_not {T : TypeId} {w W : World} {v : Value} {G : List Frm} {Ls : List (List Ran)} (h : AllI T w v G Ls W) (K : Nat) (hK : W.heap.size ≤ K) : v.ownBlock ≠ some K := fun e => by
  have := (World.ownsRow.lt h.own K e).2
  omega
set_option maxHeartbeats 16000000 in
theorem pall_any (l : List UInt8) (w : World) (ht : Tab w) (hl : l.length ≤ 100000) : Calls Tryd.prog 8 #[.string ⟨l.toArray⟩] w fun e w' => AllTo (allN l.length l []) w e w' := by
  have CG := Lib.hid (fun (s : List UInt8) (W : World) (hb : Below w.heap.size w W) (hs : s.length ≤ 100000) => get_any s W (ht.below hb ht.lt) hs)
  obtain ⟨T, hT⟩ : ∃ T, allN l.length l [] = T := ⟨_, rfl⟩
  have HT := Lib.hid hT
  rw [hT]
  have HL := Lib.hid hl
  clear hT ht hl
  go_enter Tryd.func8, Tryd.ntmps8
  go_wp2_with fail
  go_loopw [0, 4] (fun sv lv wr => ∃ (k : Nat) (s : List UInt8) (acc : List (Frm × List (Nat × Nat))) (a : Option Addr) (c : Nat) (G : List Frm) (Ls : List (List Ran)), sv = .string ⟨s.toArray⟩ ∧ lv = .slice a acc.length c ∧ s.length ≤ k ∧ s.length ≤ 100000 ∧ acc.length ≤ 40 ∧ allN k s acc = T ∧ Is G Ls acc ∧ AllI 27 w (.slice a acc.length c) G Ls wr) (fun sv _ _ => (match sv with | .string b => b.size | _ => 0))
  case atStart => exact ⟨l.length, l, [], none, 0, [], [], rfl, rfl, Nat.le_refl _, HL.out, by decide, HT.out, ⟨rfl, rfl⟩, AllI.start _ w w (Below.refl _ _)⟩
  case round =>
    obtain ⟨k, s, acc, a, c, G, Ls, rfl, rfl, hk, hs, hacc, hN, hI, hA⟩ := hrel
    have HA := Lib.hid hA
    have HI := Lib.hid hI
    have CGs := Lib.hid (CG.out s _ hA.bel hs)
    clear CG HT HL hA hI
    match hg : getN s with
    | none =>
      have HV : Hid (T = none) := Lib.hid (by
        rw [← hN]
        match k with
        | 0 => rfl
        | k + 1 => rw [allN, hg])
      rw [hg] at CGs
      clear hN hg hk hs hacc
      go_wp2_with fail
      refine CGs.out.mono ?_
      rintro e w1 ⟨hb, rfl⟩
      have HB := Lib.hid ((HA.out.bel.trans (hb.mono HA.out.bel.size)).alloc (Nat.le_trans HA.out.bel.size hb.size) (.cells #[.int .u64 0, .int .u64 0, .int .u64 0, .int .u64 0, .int .u64 0, .int .u64 0, .int .u64 0, .int .u64 0, .bool false, .string ⟨#[]⟩, .string ⟨#[]⟩, .string ⟨#[]⟩, .slice none 0 0] 27))
      clear hb
      go_wp2
      go_ret2
      rw [HV.out]
      exact ⟨HB.out, rfl⟩
    | some (f, rs, r) =>
      obtain ⟨_, _, pre, hpre, hpn⟩ := getN_is hg
      have hrl : r.length + 1 ≤ s.length := by
        rw [hpre, List.length_append]
        have : 0 < pre.length := List.length_pos_iff.2 hpn
        omega
      obtain ⟨j, rfl⟩ : ∃ j, k = j + 1 := ⟨k - 1, by omega⟩
      rw [allN, hg] at hN
      have HN := Lib.hid hN
      simp only at HN
      rw [hg] at CGs
      have HRL := Lib.hid hrl
      have HKK := Lib.hid hk
      have HSS := Lib.hid hs
      have HAC := Lib.hid hacc
      clear hN hg hpre hpn hrl hk hs hacc
      go_wp2_with fail
      refine CGs.out.mono ?_
      rintro e w1 ⟨hb, sl, h1, h2, h3, rfl⟩
      obtain ⟨F, hF⟩ : ∃ F : Frm, ({ f with set := sl } : Frm) = F := ⟨_, rfl⟩
      have hFk : F.kind = f.kind := by rw [← hF]
      have hFs : F.set = sl := by rw [← hF]
      rw [hF]
      have HA1 := Lib.hid (HA.out.go hb)
      have HB0 : Hid (Below w1.heap.size w1 (w1.alloc (.cells #[.int .u64 F.kind, .int .u64 F.id, .int .u64 F.off, .int .u64 F.max, .int .u64 F.code, .int .u64 F.seq, .int .u64 F.prior, .int .u64 F.delay, .bool F.fin, .string ⟨F.data.toArray⟩, .string ⟨F.cid.toArray⟩, .string ⟨F.token.toArray⟩, .slice F.set.a F.set.n F.set.c] 27 (0, 0)))) := Lib.hid ((Below.refl _ _).alloc (Nat.le_refl _) _)
      have HFB : Hid (FrB w1.heap.size F (w1.alloc (.cells #[.int .u64 F.kind, .int .u64 F.id, .int .u64 F.off, .int .u64 F.max, .int .u64 F.code, .int .u64 F.seq, .int .u64 F.prior, .int .u64 F.delay, .bool F.fin, .string ⟨F.data.toArray⟩, .string ⟨F.cid.toArray⟩, .string ⟨F.token.toArray⟩, .slice F.set.a F.set.n F.set.c] 27 (0, 0)))) := Lib.hid (World.alloc_heap_new w1 _)
      have HA2 := Lib.hid (HA1.out.go HB0.out)
      have HRD : Hid (Rd (w1.alloc (.cells #[.int .u64 F.kind, .int .u64 F.id, .int .u64 F.off, .int .u64 F.max, .int .u64 F.code, .int .u64 F.seq, .int .u64 F.prior, .int .u64 F.delay, .bool F.fin, .string ⟨F.data.toArray⟩, .string ⟨F.cid.toArray⟩, .string ⟨F.token.toArray⟩, .slice F.set.a F.set.n F.set.c] 27 (0, 0))) (.slice F.set.a F.set.n F.set.c) (ints rs)) := Lib.hid (Rd.below (show Rd w1 (.slice F.set.a F.set.n F.set.c) (ints rs) by rw [hFs]; exact h2) HB0.out)
      have HFAR : Hid (∀ x, F.set.a = some x → (Value.slice a acc.length c).ownBlock ≠ some x.block) := Lib.hid (fun x hx => own_not HA.out x.block (h3 x (by rw [← hFs]; exact hx)))
      have HSL := Lib.hid hF
      have HIS : Hid (Is (G ++ [F]) (Ls ++ [ints rs]) (acc ++ [(f, rs)])) := Lib.hid (hF ▸ HI.out.push f rs sl)
      by_cases hk0 : f.kind = 0
      · have e0 : (F.kind != 0) = false := by rw [hFk, hk0]; rfl
        rw [if_pos hk0] at HN
        have HN2 : Hid ((if r = [] then some acc else allN j r acc) = T) := Lib.hid (by have := HN.out; rwa [if_neg (by have := HAC.out; omega)] at this)
        have hm : ¬ (40 : Int) < (acc.length : Int) := by have := HAC.out; omega
        have c0 := HFB.out.cell0
        by_cases hr : r = []
        · have hre := isE_nil hr
          have HV : Hid (T = some acc) := Lib.hid (by rw [← HN2.out, if_pos hr])
          clear hr hb h1 h2 h3 hFk hFs hF hk0 HN HN2 HRD HFAR HIS
          go_wp2_with fail
          go_wp2
          go_ret2
          rw [HV.out]
          exact ⟨HA2.out.bel, _, G, Ls, HA2.out, HI.out, rfl⟩
        · have hre := isE_not hr
          have HV : Hid (allN j r acc = T) := Lib.hid (by have := HN2.out; rwa [if_neg hr] at this)
          clear hr hb h1 h2 h3 hFk hFs hF hk0 HN HN2 HRD HFAR HIS
          go_wp2
          go_roundw
          case rel => exact ⟨j, r, acc, a, c, G, Ls, rfl, rfl, by have := HRL.out; have := HKK.out; omega, by have := HRL.out; have := HSS.out; omega, HAC.out, HV.out, HI.out, HA2.out⟩
          case measure =>
            have := HRL.out
            show (⟨r.toArray⟩ : ByteArray).size < (⟨s.toArray⟩ : ByteArray).size
            show r.length < s.length
            omega
      · have e0 : (F.kind != 0) = true := by rw [hFk, bne_iff_ne]; exact hk0
        rw [if_neg hk0] at HN
        have hlen : G.length = acc.length := HI.out.len
        obtain ⟨va, vc, w4, HR, HP⟩ := HA2.out.push tyP (by have := HAC.out; omega) F (ints rs) HRD.out (fun _ => HFAR.out) 37
        rw [hlen] at HR HP
        rw [World.size_alloc] at HR
        have HRU := Lib.hid HR
        have HPU := Lib.hid HP
        have hal : (acc ++ [(f, rs)]).length = acc.length + 1 := by simp
        obtain ⟨c0, c1, c2, c3, c4, c5, c6, c7, c8, c9, c10, c11, c12⟩ := HFB.out.ats
        by_cases hm : 40 < acc.length + 1
        · have hmi : (40 : Int) < (acc.length : Int) + 1 := by omega
          have HV : Hid (T = none) := Lib.hid (by have := HN.out; rw [if_pos (by rw [hal]; exact hm)] at this; exact this.symm)
          clear hb h1 h2 h3 hFk hFs hF hk0 HN HR HP hm hal
          go_wp2_with (at_builtin; refine Lib.wpList_append_run _ rfl _ _ _ _ rfl _ _ rfl rfl _ _ HRU.out ?_)
          go_wp2
          go_ret2
          rw [HV.out]
          exact ⟨HPU.out.bel, rfl⟩
        · have hmi : ¬ (40 : Int) < (acc.length : Int) + 1 := by omega
          have HN2 : Hid ((if r = [] then some (acc ++ [(f, rs)]) else allN j r (acc ++ [(f, rs)])) = T) := Lib.hid (by have := HN.out; rwa [if_neg (by rw [hal]; exact hm)] at this)
          have HM : Hid (acc.length + 1 ≤ 40) := Lib.hid (by omega)
          by_cases hr : r = []
          · have hre := isE_nil hr
            have HV : Hid (T = some (acc ++ [(f, rs)])) := Lib.hid (by rw [← HN2.out, if_pos hr])
            clear hr hb h1 h2 h3 hFk hFs hF hk0 HN HN2 HR HP hm hal
            go_wp2_with (at_builtin; refine Lib.wpList_append_run _ rfl _ _ _ _ rfl _ _ rfl rfl _ _ HRU.out ?_)
            go_wp2
            go_ret2
            rw [HV.out]
            exact ⟨HPU.out.bel, _, _, _, HPU.out, HIS.out, rfl⟩
          · have hre := isE_not hr
            have HV : Hid (allN j r (acc ++ [(f, rs)]) = T) := Lib.hid (by have := HN2.out; rwa [if_neg hr] at this)
            clear hr hb h1 h2 h3 hFk hFs hF hk0 HN HN2 HR HP hm
            have HAL := Lib.hid hal
            clear hal
            go_wp2_with (at_builtin; refine Lib.wpList_append_run _ rfl _ _ _ _ rfl _ _ rfl rfl _ _ HRU.out ?_)
            go_wp2
            go_roundw
            case rel => exact ⟨j, r, acc ++ [(f, rs)], va, vc, _, _, rfl, by rw [HAL.out], by have := HRL.out; have := HKK.out; omega, by have := HRL.out; have := HSS.out; omega, by rw [HAL.out]; exact HM.out, HV.out, HIS.out, by rw [HAL.out]; exact HPU.out⟩
            case measure =>
              have := HRL.out
              show (⟨r.toArray⟩ : ByteArray).size < (⟨s.toArray⟩ : ByteArray).size
              show r.length < s.length
              omega
end
section
theorem OwnD.lies {W : World} {B : Nat} {va : Option Addr} {vn vc : Nat} {l : List Ran} (h : OwnD W B (.slice va vn vc) l) (x : Addr) (hx : va = some x) : B ≤ x.block := by
  rcases h.2 with ⟨hv, hz⟩ | ⟨g, cap, cur, hv, hb, _⟩
  · injection hv with e1 e2 e3
    rw [e1] at hx
    cases hx
  · injection hv with e1 e2 e3
    rw [e1] at hx
    injection hx with hx
    rw [← hx]
    exact hb
set_option maxHeartbeats 8000000 in
theorem its_new (f : Frm) (l : List Ran) (w : World) (hrd : Rd w (.slice f.set.a f.set.n f.set.c) l) (hl : l.length ≤ 1000) :
    Calls Tryd.prog 11 #[.agg #[.int .u64 f.kind, .int .u64 f.id, .int .u64 f.off, .int .u64 f.max, .int .u64 f.code, .int .u64 f.seq, .int .u64 f.prior, .int .u64 f.delay, .bool f.fin, .string ⟨f.data.toArray⟩, .string ⟨f.cid.toArray⟩, .string ⟨f.token.toArray⟩, .slice f.set.a f.set.n f.set.c]] w fun e w' => ∃ (sa : Option Addr) (sc : Nat), e = .returned (.agg #[.int .u64 f.kind, .int .u64 f.id, .int .u64 f.off, .int .u64 f.max, .int .u64 f.code, .int .u64 f.seq, .int .u64 f.prior, .int .u64 f.delay, .bool f.fin, .string ⟨f.data.toArray⟩, .string ⟨f.cid.toArray⟩, .string ⟨f.token.toArray⟩, .slice sa l.length sc]) ∧ Rd w' (.slice sa l.length sc) l ∧ Below w.heap.size w w' ∧ (∀ x, sa = some x → w.heap.size ≤ x.block) := by
  have HI0 := Lib.hid (its_begin f l w)
  have hln : l.length = f.set.n := by obtain ⟨a, cap, he, _⟩ := hrd; injection he with e1 e2 e3; omega
  have hni : (f.set.n : Int) ≤ 1000 := by omega
  have HR : Hid (∀ k, k < f.set.n → ∃ b off, f.set.a = some ⟨b, off, none⟩ ∧ b < w.heap.size ∧ w.cell? ⟨b, off + k * 2, none⟩ = some (.int .u64 (l.getD k (0, 0)).1) ∧ w.cell? ⟨b, off + k * 2 + 1, none⟩ = some (.int .u64 (l.getD k (0, 0)).2)) := Lib.hid (fun k hk => by
    obtain ⟨a, cap, he, _, hrow⟩ := hrd
    obtain ⟨b, off, ha, hc⟩ := hrow (by intro e; rw [e] at hln; simp at hln; omega)
    obtain ⟨c1, c2⟩ := hc k (by omega)
    injection he with e1 e2 e3
    exact ⟨b, off, e1.trans ha, World.block_lt_of_cell? _ _ c1, c1, c2⟩)
  have HLN := Lib.hid hln
  clear hrd hl hln
  go_enter Tryd.func11, Tryd.ntmps11
  go_wp2
  go_loopw [4] (fun iv wr => ∃ (i : Nat) (v : Value), i ≤ f.set.n ∧ iv = .int .i64 (i : Nat) ∧ ItsI f l w i v wr) (fun iv _ => f.set.n - (intOf iv).toNat)
  case atStart => exact ⟨0, _, Nat.zero_le _, rfl, HI0.out⟩
  case round =>
    clear HI0
    obtain ⟨i, v, hi, rfl, hI⟩ := hrel
    have HI := Lib.hid hI
    have c12 := hI.b.cell12
    have hi0 : (0 : Int) ≤ (i : Int) := by omega
    by_cases hin : (i : Int) < (f.set.n : Int)
    · have hin2 : i < f.set.n := by omega
      obtain ⟨rb, off, ha, g1, d1, d2⟩ := HR.out i hin2
      have d1 := cell_below HI.out.bel d1 g1
      have d2 := cell_below HI.out.bel d2 g1
      obtain ⟨⟨x1, x2⟩, hx⟩ : ∃ p, l.getD i (0, 0) = p := ⟨_, rfl⟩
      rw [hx] at d1 d2
      simp only at d1 d2
      have HTK : Hid (l.take (i + 1) = l.take i ++ [(x1, x2)]) := Lib.hid (by
        have := HLN.out
        rw [List.take_add_one, List.getElem?_eq_getElem (by omega), ← hx, List.getD_eq_getElem?_getD, List.getElem?_eq_getElem (by omega)]
        rfl)
      have o12 : wr.cell? ⟨w.heap.size + 1 + 1, 12, none⟩ = some v := Lib.cell_of_heap hI.o 12
      have of12 : wr.frozen? ⟨w.heap.size + 1 + 1, 12, none⟩ = false := Lib.frozen_of_heap hI.o 12
      have hsz := hI.sz
      have hlen : (l.take i).length ≤ 1000 := by rw [List.length_take]; omega
      obtain ⟨v', w', HA, ho', hb', hk'⟩ := push_D wr (w.heap.size + 3) v (l.take i) (x1, x2) 32 hI.own hlen hsz
      obtain ⟨va, vn, vc, rfl⟩ : ∃ va vn vc, v' = .slice va vn vc := by
        rcases ho'.2 with ⟨hv, _⟩ | ⟨g, cap, cur, hv, _⟩
        · exact ⟨_, _, _, hv⟩
        · exact ⟨_, _, _, hv⟩
      have hne : ∀ K, K < w.heap.size + 3 → K ≠ v.ownBlock.getD wr.heap.size := by
        intro K hK
        cases hv : v.ownBlock with
        | none => simp only [Option.getD_none]; omega
        | some g => have := (World.ownsRow.lt hI.own g hv).1; simp only [Option.getD_some]; omega
      have hO := (hk' (w.heap.size + 1 + 1) (by omega) (hne _ (by omega))).trans hI.o
      have hF := (hk' w.heap.size (by omega) (hne _ (by omega))).trans hI.b
      have hZ := (hk' (w.heap.size + 1) (by omega) (hne _ (by omega))).trans hI.z
      have p12 : w'.cell? ⟨w.heap.size + 1 + 1, 12, none⟩ = some v := Lib.cell_of_heap hO 12
      have pf12 : w'.frozen? ⟨w.heap.size + 1 + 1, 12, none⟩ = false := Lib.frozen_of_heap hO 12
      have HREL : Hid (ItsI f l w (i + 1) (.slice va vn vc) (w'.setCell ⟨w.heap.size + 1 + 1, 12, none⟩ (.slice va vn vc))) := Lib.hid (by
        have hon := It.Only.setCell (O := fun k => k = w.heap.size + 1 + 1) (p := ⟨w.heap.size + 1 + 1, 12, none⟩) rfl w' (.slice va vn vc)
        refine ⟨Joins.block_setCell (i := 12) hO _, ?_, hon.heap hF (by omega), hon.heap hZ (by omega), ?_, ?_⟩
        · rw [HTK.out]
          exact OwnD.only ho' hon (fun g hg => by have := (World.ownsRow.lt ho' g hg).1; omega)
        · exact (hI.bel.trans (hb'.mono (by omega))).trans (hon.below (by have := hb'.size; omega) (fun k hk => by omega))
        · have := hb'.size
          have := hon.size
          omega)
      rw [ha] at c12
      clear hI hO hF hZ hk' hne hx ha
      have hl1 : w.heap.size < wr.heap.size := by omega
      have hl2 : rb < wr.heap.size := by omega
      have hl3 : w.heap.size + 1 + 1 < wr.heap.size := by omega
      go_wp2_with fail
      go_region_law (refine step_append_run rfl _ _ _ rfl _ _ rfl rfl HA ?_)
      all_goals
        go_wp2
        go_roundw
        case rel => exact ⟨i + 1, _, by omega, rfl, HREL.out⟩
        case measure => simp [intOf]; omega
    · have hie : i = f.set.n := by omega
      subst hie
      obtain ⟨va, vn, vc, rfl⟩ : ∃ va vn vc, v = .slice va vn vc := by
        rcases hI.own.2 with ⟨hv, _⟩ | ⟨g, cap, cur, hv, _⟩
        · exact ⟨_, _, _, hv⟩
        · exact ⟨_, _, _, hv⟩
      have HOW : Hid (OwnD wr (w.heap.size + 3) (.slice va vn vc) l) := Lib.hid (by
        have h := hI.own
        rwa [List.take_of_length_le (by rw [HLN.out]; exact Nat.le_refl _)] at h)
      have HZD : Hid (FrD (w.heap.size + 1) frZ wr) := Lib.hid hI.z
      have o0 : wr.cell? ⟨w.heap.size + 1 + 1, 0, none⟩ = _ := Lib.cell_of_heap hI.o 0
      have o1 : wr.cell? ⟨w.heap.size + 1 + 1, 1, none⟩ = _ := Lib.cell_of_heap hI.o 1
      have o2 : wr.cell? ⟨w.heap.size + 1 + 1, 2, none⟩ = _ := Lib.cell_of_heap hI.o 2
      have o3 : wr.cell? ⟨w.heap.size + 1 + 1, 3, none⟩ = _ := Lib.cell_of_heap hI.o 3
      have o4 : wr.cell? ⟨w.heap.size + 1 + 1, 4, none⟩ = _ := Lib.cell_of_heap hI.o 4
      have o5 : wr.cell? ⟨w.heap.size + 1 + 1, 5, none⟩ = _ := Lib.cell_of_heap hI.o 5
      have o6 : wr.cell? ⟨w.heap.size + 1 + 1, 6, none⟩ = _ := Lib.cell_of_heap hI.o 6
      have o7 : wr.cell? ⟨w.heap.size + 1 + 1, 7, none⟩ = _ := Lib.cell_of_heap hI.o 7
      have o8 : wr.cell? ⟨w.heap.size + 1 + 1, 8, none⟩ = _ := Lib.cell_of_heap hI.o 8
      have o9 : wr.cell? ⟨w.heap.size + 1 + 1, 9, none⟩ = _ := Lib.cell_of_heap hI.o 9
      have o10 : wr.cell? ⟨w.heap.size + 1 + 1, 10, none⟩ = _ := Lib.cell_of_heap hI.o 10
      have o11 : wr.cell? ⟨w.heap.size + 1 + 1, 11, none⟩ = _ := Lib.cell_of_heap hI.o 11
      have o12 : wr.cell? ⟨w.heap.size + 1 + 1, 12, none⟩ = _ := Lib.cell_of_heap hI.o 12
      have z0 : wr.cell? ⟨w.heap.size + 1, 0, none⟩ = _ := Lib.cell_of_heap hI.z 0
      have z1 : wr.cell? ⟨w.heap.size + 1, 1, none⟩ = _ := Lib.cell_of_heap hI.z 1
      have z2 : wr.cell? ⟨w.heap.size + 1, 2, none⟩ = _ := Lib.cell_of_heap hI.z 2
      have z3 : wr.cell? ⟨w.heap.size + 1, 3, none⟩ = _ := Lib.cell_of_heap hI.z 3
      have z4 : wr.cell? ⟨w.heap.size + 1, 4, none⟩ = _ := Lib.cell_of_heap hI.z 4
      have z5 : wr.cell? ⟨w.heap.size + 1, 5, none⟩ = _ := Lib.cell_of_heap hI.z 5
      have z6 : wr.cell? ⟨w.heap.size + 1, 6, none⟩ = _ := Lib.cell_of_heap hI.z 6
      have z7 : wr.cell? ⟨w.heap.size + 1, 7, none⟩ = _ := Lib.cell_of_heap hI.z 7
      have z8 : wr.cell? ⟨w.heap.size + 1, 8, none⟩ = _ := Lib.cell_of_heap hI.z 8
      have z9 : wr.cell? ⟨w.heap.size + 1, 9, none⟩ = _ := Lib.cell_of_heap hI.z 9
      have z10 : wr.cell? ⟨w.heap.size + 1, 10, none⟩ = _ := Lib.cell_of_heap hI.z 10
      have z11 : wr.cell? ⟨w.heap.size + 1, 11, none⟩ = _ := Lib.cell_of_heap hI.z 11
      have z12 : wr.cell? ⟨w.heap.size + 1, 12, none⟩ = _ := Lib.cell_of_heap hI.z 12
      have zf : ∀ k, wr.frozen? ⟨w.heap.size + 1, k, none⟩ = false := fun k => Lib.frozen_of_heap hI.z k
      clear hI
      go_wp2
      refine bodyPost_ret (v := .agg #[.int .u64 f.kind, .int .u64 f.id, .int .u64 f.off, .int .u64 f.max, .int .u64 f.code, .int .u64 f.seq, .int .u64 f.prior, .int .u64 f.delay, .bool f.fin, .string ⟨f.data.toArray⟩, .string ⟨f.cid.toArray⟩, .string ⟨f.token.toArray⟩, .slice va vn vc]) (by
        change Sem.run Tryd.prog (results _ _) (rstF (w.heap.size + 1) { f with set := ⟨va, vn, vc⟩ } wr) = Result.ok _ (rstF (w.heap.size + 1) { f with set := ⟨va, vn, vc⟩ } wr)
        have e := rstF_frd HZD.out { f with set := ⟨va, vn, vc⟩ }
        have y0 : (rstF (w.heap.size + 1) { f with set := ⟨va, vn, vc⟩ } wr).cell? ⟨w.heap.size + 1, 0, none⟩ = some (.int .u64 f.kind) := Lib.cell_of_heap e 0
        have y1 : (rstF (w.heap.size + 1) { f with set := ⟨va, vn, vc⟩ } wr).cell? ⟨w.heap.size + 1, 1, none⟩ = some (.int .u64 f.id) := Lib.cell_of_heap e 1
        have y2 : (rstF (w.heap.size + 1) { f with set := ⟨va, vn, vc⟩ } wr).cell? ⟨w.heap.size + 1, 2, none⟩ = some (.int .u64 f.off) := Lib.cell_of_heap e 2
        have y3 : (rstF (w.heap.size + 1) { f with set := ⟨va, vn, vc⟩ } wr).cell? ⟨w.heap.size + 1, 3, none⟩ = some (.int .u64 f.max) := Lib.cell_of_heap e 3
        have y4 : (rstF (w.heap.size + 1) { f with set := ⟨va, vn, vc⟩ } wr).cell? ⟨w.heap.size + 1, 4, none⟩ = some (.int .u64 f.code) := Lib.cell_of_heap e 4
        have y5 : (rstF (w.heap.size + 1) { f with set := ⟨va, vn, vc⟩ } wr).cell? ⟨w.heap.size + 1, 5, none⟩ = some (.int .u64 f.seq) := Lib.cell_of_heap e 5
        have y6 : (rstF (w.heap.size + 1) { f with set := ⟨va, vn, vc⟩ } wr).cell? ⟨w.heap.size + 1, 6, none⟩ = some (.int .u64 f.prior) := Lib.cell_of_heap e 6
        have y7 : (rstF (w.heap.size + 1) { f with set := ⟨va, vn, vc⟩ } wr).cell? ⟨w.heap.size + 1, 7, none⟩ = some (.int .u64 f.delay) := Lib.cell_of_heap e 7
        have y8 : (rstF (w.heap.size + 1) { f with set := ⟨va, vn, vc⟩ } wr).cell? ⟨w.heap.size + 1, 8, none⟩ = some (.bool f.fin) := Lib.cell_of_heap e 8
        have y9 : (rstF (w.heap.size + 1) { f with set := ⟨va, vn, vc⟩ } wr).cell? ⟨w.heap.size + 1, 9, none⟩ = some (.string ⟨f.data.toArray⟩) := Lib.cell_of_heap e 9
        have y10 : (rstF (w.heap.size + 1) { f with set := ⟨va, vn, vc⟩ } wr).cell? ⟨w.heap.size + 1, 10, none⟩ = some (.string ⟨f.cid.toArray⟩) := Lib.cell_of_heap e 10
        have y11 : (rstF (w.heap.size + 1) { f with set := ⟨va, vn, vc⟩ } wr).cell? ⟨w.heap.size + 1, 11, none⟩ = some (.string ⟨f.token.toArray⟩) := Lib.cell_of_heap e 11
        have y12 : (rstF (w.heap.size + 1) { f with set := ⟨va, vn, vc⟩ } wr).cell? ⟨w.heap.size + 1, 12, none⟩ = some (.slice va vn vc) := Lib.cell_of_heap e 12
        generalize (rstF (w.heap.size + 1) { f with set := ⟨va, vn, vc⟩ } wr) = X at y0 y1 y2 y3 y4 y5 y6 y7 y8 y9 y10 y11 y12 ⊢
        simp [results, Tryd.results11, go_sem, y0, y1, y2, y3, y4, y5, y6, y7, y8, y9, y10, y11, y12]) rfl ?_
      have hon := rstF_only (w.heap.size + 1) { f with set := ⟨va, vn, vc⟩ } wr
      obtain ⟨hvn, hrd⟩ := OwnD.rd (OwnD.only HOW.out hon (fun g hg => by have := (World.ownsRow.lt HOW.out g hg).1; omega))
      subst hvn
      exact ⟨va, vc, rfl, hrd, HI.out.bel.trans (hon.below HI.out.bel.size (fun k hk => by omega)), fun x hx => by have := OwnD.lies HOW.out x hx; omega⟩
theorem AllI.empty (T : TypeId) (w W : World) (h : Below w.heap.size w W) : AllI T w (.slice (some ⟨W.heap.size, 0, none⟩) 0 0) [] [] (W.alloc (.cells #[] T)) :=
  ⟨⟨rfl, .inr ⟨W.heap.size, 0, #[], rfl, h.size, World.alloc_heap_new W _, Nat.le_refl _, by decide, rfl, rfl⟩⟩, h.alloc h.size _, rfl, fun i hi => by simp at hi, fun i hi => by simp at hi⟩
theorem take_getD {α : Type} (l : List α) (k : Nat) (d : α) (h : k < l.length) : l.take (k + 1) = l.take k ++ [l.getD k d] := by
  rw [List.take_add_one, List.getD_eq_getElem?_getD, List.getElem?_eq_getElem h]
  rfl
theorem set_n {w : World} {f : Frm} {l : List Ran} (h : Rd w (.slice f.set.a f.set.n f.set.c) l) : f.set.n = l.length := by
  obtain ⟨a, cap, he, _⟩ := h
  injection he
set_option maxHeartbeats 16000000 in
theorem all_any (v : Value) (G : List Frm) (Ls : List (List Ran)) (w : World) (hv : RowF w v G) (hlen : Ls.length = G.length) (hrd : ∀ i, i < G.length → Rd w (.slice (G.getD i frZ).set.a (G.getD i frZ).set.n (G.getD i frZ).set.c) (Ls.getD i [])) (hs : ∀ i, i < G.length → (Ls.getD i []).length ≤ 1000) (hn : G.length ≤ 1000) :
    Calls Tryd.prog 13 #[v] w fun e w' => ∃ v' G', e = .returned v' ∧ AllI 34 w v' G' Ls w' ∧ G'.map bl = G.map bl := by
  obtain ⟨a, cap, rfl, hcap, hrow⟩ := hv
  obtain ⟨n, hgn⟩ : ∃ n, G.length = n := ⟨_, rfl⟩
  rw [hgn]
  have HGN := Lib.hid hgn
  have HLN := Lib.hid hlen
  have hni : (n : Int) ≤ 1000 := by omega
  have HNI : Hid (n ≤ 1000) := Lib.hid (by omega)
  have HROW : Hid (∀ i, i < n → ∃ b off, a = some ⟨b, off, none⟩ ∧ b < w.heap.size ∧ ∀ j, j < 13 → w.cell? ⟨b, off + (i * 13 + j), none⟩ = (fcs (G.getD i frZ))[j]?) := Lib.hid (fun i hi => by
    obtain ⟨b, off, ha, hlt, hc⟩ := hrow (fun h => by rw [h] at hgn; simp at hgn; omega)
    exact ⟨b, off, ha, hlt, hc i (by omega)⟩)
  have HRD := Lib.hid hrd
  have HS := Lib.hid hs
  clear hrow hrd hs hgn hlen hcap hn
  go_enter Tryd.func13, Tryd.ntmps13
  go_wp2
  go_loopw [3, 4] (fun lv iv wr => ∃ (i : Nat) (G' : List Frm) (a2 : Option Addr) (c2 : Nat), i ≤ n ∧ iv = .int .i64 (i : Nat) ∧ lv = .slice a2 i c2 ∧ G'.length = i ∧ G'.map bl = (G.take i).map bl ∧ AllI 34 w (.slice a2 i c2) G' (Ls.take i) wr) (fun _ iv _ => n - (intOf iv).toNat)
  case atStart => exact ⟨0, [], _, _, Nat.zero_le _, rfl, rfl, rfl, rfl, AllI.empty _ w w (Below.refl _ _)⟩
  case round =>
    obtain ⟨i, G', a2, c2, hi, rfl, rfl, hGl, hGm, hA⟩ := hrel
    have HA := Lib.hid hA
    have HGM := Lib.hid hGm
    have HGL := Lib.hid hGl
    clear hA hGm hGl
    have hi0 : (0 : Int) ≤ (i : Int) := by omega
    by_cases hin : (i : Int) < (n : Int)
    · have hin2 : i < n := by omega
      obtain ⟨b, off, ha, hlt, hc⟩ := HROW.out i hin2
      have hg1 : i < G.length := by rw [HGN.out]; exact hin2
      have CI := Lib.hid (its_new (G.getD i frZ) (Ls.getD i []) wr ((HRD.out i hg1).below HA.out.bel) (HS.out i hg1))
      have HSN : Hid ((G.getD i frZ).set.n = (Ls.getD i []).length) := Lib.hid (set_n (HRD.out i hg1))
      have HTG : Hid (G.take (i + 1) = G.take i ++ [G.getD i frZ]) := Lib.hid (take_getD G i frZ hg1)
      have HTL : Hid (Ls.take (i + 1) = Ls.take i ++ [Ls.getD i []]) := Lib.hid (take_getD Ls i [] (by rw [HLN.out]; exact hg1))
      obtain ⟨f, hf⟩ : ∃ f, G.getD i frZ = f := ⟨_, rfl⟩
      obtain ⟨l, hl⟩ : ∃ l, Ls.getD i [] = l := ⟨_, rfl⟩
      rw [hf, hl] at CI HSN
      rw [hf] at hc HTG
      rw [hl] at HTL
      have hw : ∀ j, j < 13 → wr.cell? ⟨b, off + (i * 13 + j), none⟩ = (fcs f)[j]? := fun j hj => (HA.out.bel.cell (p := ⟨b, off + (i * 13 + j), none⟩) hlt).trans (hc j hj)
      rw [ha]
      have d0 : wr.cell? ⟨b, off + i * 13, none⟩ = some (.int .u64 f.kind) := hw 0 (by decide)
      have d1 : wr.cell? ⟨b, off + i * 13 + 1, none⟩ = some (.int .u64 f.id) := by rw [Nat.add_assoc]; exact hw 1 (by decide)
      have d2 : wr.cell? ⟨b, off + i * 13 + 2, none⟩ = some (.int .u64 f.off) := by rw [Nat.add_assoc]; exact hw 2 (by decide)
      have d3 : wr.cell? ⟨b, off + i * 13 + 3, none⟩ = some (.int .u64 f.max) := by rw [Nat.add_assoc]; exact hw 3 (by decide)
      have d4 : wr.cell? ⟨b, off + i * 13 + 4, none⟩ = some (.int .u64 f.code) := by rw [Nat.add_assoc]; exact hw 4 (by decide)
      have d5 : wr.cell? ⟨b, off + i * 13 + 5, none⟩ = some (.int .u64 f.seq) := by rw [Nat.add_assoc]; exact hw 5 (by decide)
      have d6 : wr.cell? ⟨b, off + i * 13 + 6, none⟩ = some (.int .u64 f.prior) := by rw [Nat.add_assoc]; exact hw 6 (by decide)
      have d7 : wr.cell? ⟨b, off + i * 13 + 7, none⟩ = some (.int .u64 f.delay) := by rw [Nat.add_assoc]; exact hw 7 (by decide)
      have d8 : wr.cell? ⟨b, off + i * 13 + 8, none⟩ = some (.bool f.fin) := by rw [Nat.add_assoc]; exact hw 8 (by decide)
      have d9 : wr.cell? ⟨b, off + i * 13 + 9, none⟩ = some (.string ⟨f.data.toArray⟩) := by rw [Nat.add_assoc]; exact hw 9 (by decide)
      have d10 : wr.cell? ⟨b, off + i * 13 + 10, none⟩ = some (.string ⟨f.cid.toArray⟩) := by rw [Nat.add_assoc]; exact hw 10 (by decide)
      have d11 : wr.cell? ⟨b, off + i * 13 + 11, none⟩ = some (.string ⟨f.token.toArray⟩) := by rw [Nat.add_assoc]; exact hw 11 (by decide)
      have d12 : wr.cell? ⟨b, off + i * 13 + 12, none⟩ = some (.slice f.set.a f.set.n f.set.c) := by rw [Nat.add_assoc]; exact hw 12 (by decide)
      clear hc hw hf hl ha hlt
      go_wp2_with fail
      with_reducible refine CI.out.mono ?_
      rintro e w1 ⟨sa, sc, rfl, hr, hb, hnew⟩
      obtain ⟨va, vc, w2, HR, HP⟩ := (HA.out.go hb).push tyD (by rw [HGL.out]; have := HNI.out; omega) { f with set := ⟨sa, l.length, sc⟩ } l hr (fun _ x hx => own_not HA.out x.block (hnew x hx)) 40
      rw [HGL.out] at HR HP
      have HRU := Lib.hid HR
      have HPU : Hid (AllI 34 w (.slice va (i + 1) vc) (G' ++ [{ f with set := ⟨sa, l.length, sc⟩ }]) (Ls.take (i + 1)) w2) := Lib.hid (by rw [HTL.out]; exact HP)
      have HMU : Hid ((G' ++ [({ f with set := ⟨sa, l.length, sc⟩ } : Frm)]).map bl = (G.take (i + 1)).map bl) := Lib.hid (by rw [HTG.out, List.map_append, List.map_append, HGM.out]; rfl)
      have HLU : Hid ((G' ++ [({ f with set := ⟨sa, l.length, sc⟩ } : Frm)]).length = i + 1) := Lib.hid (by rw [List.length_append, HGL.out]; rfl)
      clear hr hb hnew HR HP
      go_wp2_with (at_builtin; refine Lib.wpList_append_run _ rfl _ _ _ _ rfl _ _ rfl rfl _ _ HRU.out ?_)
      go_wp2
      go_roundw
      case rel => exact ⟨i + 1, _, va, vc, by omega, by go_num, rfl, HLU.out, HMU.out, HPU.out⟩
      case measure => simp [intOf]; omega
    · have hie : i = n := by omega
      subst hie
      go_wp2
      go_ret
      refine ⟨_, rfl, G', ?_, ?_⟩
      · have := HA.out
        rwa [List.take_of_length_le (by rw [HLN.out, HGN.out]; exact Nat.le_refl _)] at this
      · have := HGM.out
        rwa [List.take_of_length_le (by rw [HGN.out]; exact Nat.le_refl _)] at this
end
section
theorem bl_same {f g : Frm} (h : bl f = bl g) (l : List Ran) : sameF f g l l = true := by
  have e : f = { g with set := f.set } := by
    unfold bl at h
    cases f; cases g
    simp only [Frm.mk.injEq] at h ⊢
    simp_all
  rw [e]
  exact same_self g f.set g.set l
theorem map_getD {G H : List Frm} (h : G.map bl = H.map bl) (i : Nat) (hi : i < G.length) : bl (G.getD i frZ) = bl (H.getD i frZ) := by
  have hl : G.length = H.length := by simpa using congrArg List.length h
  have := congrArg (fun l => l[i]?) h
  simp only [List.getElem?_map] at this
  rw [List.getElem?_eq_getElem hi, List.getElem?_eq_getElem (show i < H.length by omega)] at this
  simp only [Option.map_some, Option.some.injEq] at this
  rw [List.getD_eq_getElem?_getD, List.getD_eq_getElem?_getD, List.getElem?_eq_getElem hi, List.getElem?_eq_getElem (show i < H.length by omega)]
  exact this
set_option maxHeartbeats 16000000 in
theorem sameall_any (v1 v2 : Value) (G H : List Frm) (Ls : List (List Ran)) (W0 : World) (h1 : RowF W0 v1 G) (h2 : RowF W0 v2 H) (hm : G.map bl = H.map bl) (hn : G.length ≤ 1000)
    (r1 : ∀ i, i < G.length → Rd W0 (.slice (G.getD i frZ).set.a (G.getD i frZ).set.n (G.getD i frZ).set.c) (Ls.getD i [])) (r2 : ∀ i, i < H.length → Rd W0 (.slice (H.getD i frZ).set.a (H.getD i frZ).set.n (H.getD i frZ).set.c) (Ls.getD i [])) (hs : ∀ i, i < G.length → (Ls.getD i []).length ≤ 1000) :
    Calls Tryd.prog 12 #[v1, v2] W0 fun e w' => e = .returned (.bool true) ∧ Below W0.heap.size W0 w' := by
  obtain ⟨a, cap, rfl, _, hr1⟩ := h1
  obtain ⟨a2, cap2, rfl, _, hr2⟩ := h2
  have hl : H.length = G.length := by simpa using (congrArg List.length hm).symm
  rw [hl]
  obtain ⟨n, hgn⟩ : ∃ n, G.length = n := ⟨_, rfl⟩
  rw [hgn]
  have hni : (n : Int) ≤ 1000 := by omega
  have HR1 : Hid (∀ i, i < n → ∃ b off, a = some ⟨b, off, none⟩ ∧ ∀ V, Below W0.heap.size W0 V → ∀ j, j < 13 → V.cell? ⟨b, off + (i * 13 + j), none⟩ = (fcs (G.getD i frZ))[j]?) := Lib.hid (fun i hi => by
    obtain ⟨b, off, ha, hlt, hc⟩ := hr1 (fun h => by rw [h] at hgn; simp at hgn; omega)
    exact ⟨b, off, ha, fun V hb j hj => (hb.cell (p := ⟨b, off + (i * 13 + j), none⟩) hlt).trans (hc i (by omega) j hj)⟩)
  have HR2 : Hid (∀ i, i < n → ∃ b off, a2 = some ⟨b, off, none⟩ ∧ ∀ V, Below W0.heap.size W0 V → ∀ j, j < 13 → V.cell? ⟨b, off + (i * 13 + j), none⟩ = (fcs (H.getD i frZ))[j]?) := Lib.hid (fun i hi => by
    obtain ⟨b, off, ha, hlt, hc⟩ := hr2 (fun h => by rw [h] at hl; simp at hl; omega)
    exact ⟨b, off, ha, fun V hb j hj => (hb.cell (p := ⟨b, off + (i * 13 + j), none⟩) hlt).trans (hc i (by omega) j hj)⟩)
  have HCS : Hid (∀ i, i < n → ∀ V, Below W0.heap.size W0 V → Calls Tryd.prog 10 #[.agg #[.int .u64 (G.getD i frZ).kind, .int .u64 (G.getD i frZ).id, .int .u64 (G.getD i frZ).off, .int .u64 (G.getD i frZ).max, .int .u64 (G.getD i frZ).code, .int .u64 (G.getD i frZ).seq, .int .u64 (G.getD i frZ).prior, .int .u64 (G.getD i frZ).delay, .bool (G.getD i frZ).fin, .string ⟨(G.getD i frZ).data.toArray⟩, .string ⟨(G.getD i frZ).cid.toArray⟩, .string ⟨(G.getD i frZ).token.toArray⟩, .slice (G.getD i frZ).set.a (G.getD i frZ).set.n (G.getD i frZ).set.c], .agg #[.int .u64 (H.getD i frZ).kind, .int .u64 (H.getD i frZ).id, .int .u64 (H.getD i frZ).off, .int .u64 (H.getD i frZ).max, .int .u64 (H.getD i frZ).code, .int .u64 (H.getD i frZ).seq, .int .u64 (H.getD i frZ).prior, .int .u64 (H.getD i frZ).delay, .bool (H.getD i frZ).fin, .string ⟨(H.getD i frZ).data.toArray⟩, .string ⟨(H.getD i frZ).cid.toArray⟩, .string ⟨(H.getD i frZ).token.toArray⟩, .slice (H.getD i frZ).set.a (H.getD i frZ).set.n (H.getD i frZ).set.c]] V fun e w' => e = .returned (.bool true) ∧ Below V.heap.size V w') := Lib.hid (fun i hi V hb => by
    have h := dsame_any (G.getD i frZ) (H.getD i frZ) (Ls.getD i []) (Ls.getD i []) V (hs i (by omega)) (hs i (by omega)) ((r1 i (by omega)).below hb) ((r2 i (by omega)).below hb)
    rwa [bl_same (map_getD hm i (by omega))] at h)
  clear hr1 hr2 hm hn r1 r2 hs hgn hl
  go_enter Tryd.func12, Tryd.ntmps12
  go_wp2
  go_loopw [5] (fun iv wr => ∃ i : Nat, i ≤ n ∧ iv = .int .i64 (i : Nat) ∧ Below W0.heap.size W0 wr) (fun iv _ => n - (intOf iv).toNat)
  case atStart => exact ⟨0, Nat.zero_le _, rfl, Below.refl _ _⟩
  case round =>
    obtain ⟨i, hi, rfl, hb⟩ := hrel
    have HB := Lib.hid hb
    clear hb
    have hi0 : (0 : Int) ≤ (i : Int) := by omega
    by_cases hin : (i : Int) < (n : Int)
    · have hin2 : i < n := by omega
      obtain ⟨b, off, ha, hc1⟩ := HR1.out i hin2
      obtain ⟨b2, off2, ha2, hc2⟩ := HR2.out i hin2
      have CS := Lib.hid (HCS.out i hin2)
      have HC1 := Lib.hid hc1
      have HC2 := Lib.hid hc2
      generalize G.getD i frZ = f at CS HC1
      generalize H.getD i frZ = g at CS HC2
      rw [ha, ha2]
      clear ha ha2 hc1 hc2
      go_wp2_with fail
      have HPQ := Lib.hid (fun (w : World) (hSw : Below W0.heap.size W0 w) => show (w.cell? ⟨b, off + i * 13, none⟩ = some (.int .u64 f.kind)) ∧ (w.cell? ⟨b, off + i * 13 + 1, none⟩ = some (.int .u64 f.id)) ∧ (w.cell? ⟨b, off + i * 13 + 2, none⟩ = some (.int .u64 f.off)) ∧ (w.cell? ⟨b, off + i * 13 + 3, none⟩ = some (.int .u64 f.max)) ∧ (w.cell? ⟨b, off + i * 13 + 4, none⟩ = some (.int .u64 f.code)) ∧ (w.cell? ⟨b, off + i * 13 + 5, none⟩ = some (.int .u64 f.seq)) ∧ (w.cell? ⟨b, off + i * 13 + 6, none⟩ = some (.int .u64 f.prior)) ∧ (w.cell? ⟨b, off + i * 13 + 7, none⟩ = some (.int .u64 f.delay)) ∧ (w.cell? ⟨b, off + i * 13 + 8, none⟩ = some (.bool f.fin)) ∧ (w.cell? ⟨b, off + i * 13 + 9, none⟩ = some (.string ⟨f.data.toArray⟩)) ∧ (w.cell? ⟨b, off + i * 13 + 10, none⟩ = some (.string ⟨f.cid.toArray⟩)) ∧ (w.cell? ⟨b, off + i * 13 + 11, none⟩ = some (.string ⟨f.token.toArray⟩)) ∧ (w.cell? ⟨b, off + i * 13 + 12, none⟩ = some (.slice f.set.a f.set.n f.set.c)) ∧ (w.cell? ⟨b2, off2 + i * 13, none⟩ = some (.int .u64 g.kind)) ∧ (w.cell? ⟨b2, off2 + i * 13 + 1, none⟩ = some (.int .u64 g.id)) ∧ (w.cell? ⟨b2, off2 + i * 13 + 2, none⟩ = some (.int .u64 g.off)) ∧ (w.cell? ⟨b2, off2 + i * 13 + 3, none⟩ = some (.int .u64 g.max)) ∧ (w.cell? ⟨b2, off2 + i * 13 + 4, none⟩ = some (.int .u64 g.code)) ∧ (w.cell? ⟨b2, off2 + i * 13 + 5, none⟩ = some (.int .u64 g.seq)) ∧ (w.cell? ⟨b2, off2 + i * 13 + 6, none⟩ = some (.int .u64 g.prior)) ∧ (w.cell? ⟨b2, off2 + i * 13 + 7, none⟩ = some (.int .u64 g.delay)) ∧ (w.cell? ⟨b2, off2 + i * 13 + 8, none⟩ = some (.bool g.fin)) ∧ (w.cell? ⟨b2, off2 + i * 13 + 9, none⟩ = some (.string ⟨g.data.toArray⟩)) ∧ (w.cell? ⟨b2, off2 + i * 13 + 10, none⟩ = some (.string ⟨g.cid.toArray⟩)) ∧ (w.cell? ⟨b2, off2 + i * 13 + 11, none⟩ = some (.string ⟨g.token.toArray⟩)) ∧ (w.cell? ⟨b2, off2 + i * 13 + 12, none⟩ = some (.slice g.set.a g.set.n g.set.c)) from ⟨(HC1.out w hSw 0 (by decide)), ((by rw [Nat.add_assoc]; exact HC1.out w hSw 1 (by decide))), ((by rw [Nat.add_assoc]; exact HC1.out w hSw 2 (by decide))), ((by rw [Nat.add_assoc]; exact HC1.out w hSw 3 (by decide))), ((by rw [Nat.add_assoc]; exact HC1.out w hSw 4 (by decide))), ((by rw [Nat.add_assoc]; exact HC1.out w hSw 5 (by decide))), ((by rw [Nat.add_assoc]; exact HC1.out w hSw 6 (by decide))), ((by rw [Nat.add_assoc]; exact HC1.out w hSw 7 (by decide))), ((by rw [Nat.add_assoc]; exact HC1.out w hSw 8 (by decide))), ((by rw [Nat.add_assoc]; exact HC1.out w hSw 9 (by decide))), ((by rw [Nat.add_assoc]; exact HC1.out w hSw 10 (by decide))), ((by rw [Nat.add_assoc]; exact HC1.out w hSw 11 (by decide))), ((by rw [Nat.add_assoc]; exact HC1.out w hSw 12 (by decide))), (HC2.out w hSw 0 (by decide)), ((by rw [Nat.add_assoc]; exact HC2.out w hSw 1 (by decide))), ((by rw [Nat.add_assoc]; exact HC2.out w hSw 2 (by decide))), ((by rw [Nat.add_assoc]; exact HC2.out w hSw 3 (by decide))), ((by rw [Nat.add_assoc]; exact HC2.out w hSw 4 (by decide))), ((by rw [Nat.add_assoc]; exact HC2.out w hSw 5 (by decide))), ((by rw [Nat.add_assoc]; exact HC2.out w hSw 6 (by decide))), ((by rw [Nat.add_assoc]; exact HC2.out w hSw 7 (by decide))), ((by rw [Nat.add_assoc]; exact HC2.out w hSw 8 (by decide))), ((by rw [Nat.add_assoc]; exact HC2.out w hSw 9 (by decide))), ((by rw [Nat.add_assoc]; exact HC2.out w hSw 10 (by decide))), ((by rw [Nat.add_assoc]; exact HC2.out w hSw 11 (by decide))), ((by rw [Nat.add_assoc]; exact HC2.out w hSw 12 (by decide)))⟩)
      refine wp_region_noPanic ?_
      refine wp_region_held_drew (S := fun V : World => Below W0.heap.size W0 V) (by kernel_rfl) ?_ (fun hHeld => ?_)
      · exact Below.drew HB.out
      refine wpAnyH_take (i := 0) (v := ?_) rfl (by kernel_rfl) (by kernel_rfl) (by kernel_rfl) (fun _ _ _ h => h) (Or.inl ⟨by rfl, ?_⟩) (by assumption) ?_
      rotate_left
      · (intro w hSw; (obtain ⟨p0, p1, p2, p3, p4, p5, p6, p7, p8, p9, p10, p11, p12, q0, q1, q2, q3, q4, q5, q6, q7, q8, q9, q10, q11, q12⟩ := HPQ.out w hSw; clear hSw); go_simp; (try with_reducible rfl))
      try simp only [Act.put, List.getElem_toArray, List.getElem_cons_zero, List.getElem_cons_succ, List.setIfInBounds_toArray, List.set_cons_zero, List.set_cons_succ]
      refine wpAnyH_take (i := 1) (v := ?_) rfl (by kernel_rfl) (by kernel_rfl) (by kernel_rfl) (fun _ _ _ h => h) (Or.inl ⟨by rfl, ?_⟩) (by assumption) ?_
      rotate_left
      · (intro w hSw; (obtain ⟨p0, p1, p2, p3, p4, p5, p6, p7, p8, p9, p10, p11, p12, q0, q1, q2, q3, q4, q5, q6, q7, q8, q9, q10, q11, q12⟩ := HPQ.out w hSw; clear hSw); go_simp; (try with_reducible rfl))
      try simp only [Act.put, List.getElem_toArray, List.getElem_cons_zero, List.getElem_cons_succ, List.setIfInBounds_toArray, List.set_cons_zero, List.set_cons_succ]
      refine wpAnyH_take (i := 2) (v := ?_) rfl (by kernel_rfl) (by kernel_rfl) (by kernel_rfl) (fun _ _ _ h => h) (Or.inl ⟨by rfl, ?_⟩) (by assumption) ?_
      rotate_left
      · (intro w hSw; (obtain ⟨p0, p1, p2, p3, p4, p5, p6, p7, p8, p9, p10, p11, p12, q0, q1, q2, q3, q4, q5, q6, q7, q8, q9, q10, q11, q12⟩ := HPQ.out w hSw; clear hSw); go_simp; (try with_reducible rfl))
      try simp only [Act.put, List.getElem_toArray, List.getElem_cons_zero, List.getElem_cons_succ, List.setIfInBounds_toArray, List.set_cons_zero, List.set_cons_succ]
      refine wpAnyH_take (i := 3) (v := ?_) rfl (by kernel_rfl) (by kernel_rfl) (by kernel_rfl) (fun _ _ _ h => h) (Or.inl ⟨by rfl, ?_⟩) (by assumption) ?_
      rotate_left
      · (intro w hSw; (obtain ⟨p0, p1, p2, p3, p4, p5, p6, p7, p8, p9, p10, p11, p12, q0, q1, q2, q3, q4, q5, q6, q7, q8, q9, q10, q11, q12⟩ := HPQ.out w hSw; clear hSw); go_simp; (try with_reducible rfl))
      try simp only [Act.put, List.getElem_toArray, List.getElem_cons_zero, List.getElem_cons_succ, List.setIfInBounds_toArray, List.set_cons_zero, List.set_cons_succ]
      refine wpAnyH_take (i := 4) (v := ?_) rfl (by kernel_rfl) (by kernel_rfl) (by kernel_rfl) (fun _ _ _ h => h) (Or.inl ⟨by rfl, ?_⟩) (by assumption) ?_
      rotate_left
      · (intro w hSw; (obtain ⟨p0, p1, p2, p3, p4, p5, p6, p7, p8, p9, p10, p11, p12, q0, q1, q2, q3, q4, q5, q6, q7, q8, q9, q10, q11, q12⟩ := HPQ.out w hSw; clear hSw); go_simp; (try with_reducible rfl))
      try simp only [Act.put, List.getElem_toArray, List.getElem_cons_zero, List.getElem_cons_succ, List.setIfInBounds_toArray, List.set_cons_zero, List.set_cons_succ]
      refine wpAnyH_take (i := 5) (v := ?_) rfl (by kernel_rfl) (by kernel_rfl) (by kernel_rfl) (fun _ _ _ h => h) (Or.inl ⟨by rfl, ?_⟩) (by assumption) ?_
      rotate_left
      · (intro w hSw; (obtain ⟨p0, p1, p2, p3, p4, p5, p6, p7, p8, p9, p10, p11, p12, q0, q1, q2, q3, q4, q5, q6, q7, q8, q9, q10, q11, q12⟩ := HPQ.out w hSw; clear hSw); go_simp; (try with_reducible rfl))
      try simp only [Act.put, List.getElem_toArray, List.getElem_cons_zero, List.getElem_cons_succ, List.setIfInBounds_toArray, List.set_cons_zero, List.set_cons_succ]
      refine wpAnyH_take (i := 6) (v := ?_) rfl (by kernel_rfl) (by kernel_rfl) (by kernel_rfl) (fun _ _ _ h => h) (Or.inl ⟨by rfl, ?_⟩) (by assumption) ?_
      rotate_left
      · (intro w hSw; (obtain ⟨p0, p1, p2, p3, p4, p5, p6, p7, p8, p9, p10, p11, p12, q0, q1, q2, q3, q4, q5, q6, q7, q8, q9, q10, q11, q12⟩ := HPQ.out w hSw; clear hSw); go_simp; (try with_reducible rfl))
      try simp only [Act.put, List.getElem_toArray, List.getElem_cons_zero, List.getElem_cons_succ, List.setIfInBounds_toArray, List.set_cons_zero, List.set_cons_succ]
      refine wpAnyH_take (i := 7) (v := ?_) rfl (by kernel_rfl) (by kernel_rfl) (by kernel_rfl) (fun _ _ _ h => h) (Or.inl ⟨by rfl, ?_⟩) (by assumption) ?_
      rotate_left
      · (intro w hSw; (obtain ⟨p0, p1, p2, p3, p4, p5, p6, p7, p8, p9, p10, p11, p12, q0, q1, q2, q3, q4, q5, q6, q7, q8, q9, q10, q11, q12⟩ := HPQ.out w hSw; clear hSw); go_simp; (try with_reducible rfl))
      try simp only [Act.put, List.getElem_toArray, List.getElem_cons_zero, List.getElem_cons_succ, List.setIfInBounds_toArray, List.set_cons_zero, List.set_cons_succ]
      refine wpAnyH_ready (rs := [8]) (by kernel_rfl) (by simp) ?_
      refine AllReadyH.cons rfl (fun K hK => ?_) AllReadyH.nil
      rw [if_pos (by rfl)]
      go_simp
      with_reducible refine (CS.out _ hHeld).mono ?_
      rintro e u1 ⟨rfl, hb⟩
      refine hK.out _ _ ?_ (fun hHeld => ?_)
      · exact hHeld.trans (hb.mono hHeld.size)
      clear hK K
      try simp only [Act.put, List.getElem_toArray, List.getElem_cons_zero, List.getElem_cons_succ, List.setIfInBounds_toArray, List.set_cons_zero, List.set_cons_succ]
      refine wpAnyH_take (i := 9) (v := ?_) rfl (by kernel_rfl) (by kernel_rfl) (by kernel_rfl) (fun _ _ _ h => h) (Or.inl ⟨by rfl, ?_⟩) (by assumption) ?_
      rotate_left
      · (intro w hSw; (obtain ⟨p0, p1, p2, p3, p4, p5, p6, p7, p8, p9, p10, p11, p12, q0, q1, q2, q3, q4, q5, q6, q7, q8, q9, q10, q11, q12⟩ := HPQ.out w hSw; clear hSw); go_simp; (try with_reducible rfl))
      try simp only [Act.put, List.getElem_toArray, List.getElem_cons_zero, List.getElem_cons_succ, List.setIfInBounds_toArray, List.set_cons_zero, List.set_cons_succ]
      refine wpAnyH_done (by kernel_rfl) (NoPanic.normal ?_) _
      have HB9 := Lib.hid hHeld
      clear hHeld
      go_wp2
      go_roundw
      case rel => exact ⟨i + 1, by omega, by go_num, HB9.out⟩
      case measure => simp [intOf]; omega
    · go_wp2
      go_ret
      exact ⟨rfl, HB.out⟩
end
end Go.Proofs.YtfeecfdbncjmnaaDoor.Fm
