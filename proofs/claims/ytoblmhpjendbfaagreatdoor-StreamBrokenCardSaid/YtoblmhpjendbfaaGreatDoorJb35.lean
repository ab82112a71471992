/- Layer 16: rows of frames that the call owns, and that one reads (out of layer 6's FaA). · Layer 16: does a frame fit; the bytes that are next · Layer 16: the frames that have to be sent -/
import Derived.Test.YtoblmhpjendbfaaGreatDoorJb23
import Derived.Maps.AppendAt
import Derived.Room.AppendZeros
import Derived.Test.YtoblmhpjendbfaaGreatDoorJb34
import Derived.Deep.CutRange
namespace Go.Proofs.YtoblmhpjendbfaaGreatDoor.Fm
set_option maxRecDepth 20000
open Go.RowKit Vm
set_option linter.unusedVariables false
set_option linter.unusedSimpArgs false

/-- A frame's cells. -/
def fcs (f : Frm) : List Value := [.int .u64 f.kind, .int .u64 f.id, .int .u64 f.off, .int .u64 f.max, .int .u64 f.code, .int .u64 f.seq, .int .u64 f.prior, .int .u64 f.delay, .bool f.fin, .string ⟨f.data.toArray⟩, .string ⟨f.cid.toArray⟩, .string ⟨f.token.toArray⟩, .slice f.set.a f.set.n f.set.c]
def flatF (G : List Frm) : List Value := G.flatMap fcs
theorem flatF_len (G : List Frm) : (flatF G).length = G.length * 13 := by
  induction G with
  | nil => rfl
  | cons f G ih =>
    show (fcs f ++ flatF G).length = (G.length + 1) * 13
    rw [List.length_append, ih, show (fcs f).length = 13 from rfl]
    omega
theorem flatF_app (G H : List Frm) : flatF (G ++ H) = flatF G ++ flatF H := by simp [flatF]
theorem flatF_get : ∀ (G : List Frm) (i j : Nat), i < G.length → j < 13 → (flatF G)[i * 13 + j]? = (fcs (G.getD i frZ))[j]?
  | [], i, j, h, _ => by simp at h
  | f :: G, 0, j, _, hj => by
    show (fcs f ++ flatF G)[0 * 13 + j]? = _
    rw [List.getElem?_append_left (by show 0 * 13 + j < 13; omega), Nat.zero_mul, Nat.zero_add]
    rfl
  | f :: G, i + 1, j, h, hj => by
    show (fcs f ++ flatF G)[(i + 1) * 13 + j]? = _
    rw [List.getElem?_append_right (by show 13 ≤ (i + 1) * 13 + j; omega), show (i + 1) * 13 + j - (fcs f).length = i * 13 + j by show (i + 1) * 13 + j - 13 = _; omega]
    exact flatF_get G i j (by simpa using h) hj
theorem fcs_one (f : Frm) : ∀ u ∈ fcs f, u.oneCell' = true := by
  intro u hu
  simp only [fcs, List.mem_cons, List.not_mem_nil, or_false] at hu
  rcases hu with rfl | rfl | rfl | rfl | rfl | rfl | rfl | rfl | rfl | rfl | rfl | rfl | rfl <;> rfl
def OwnF (T : TypeId) (w : World) (B : Nat) (v : Value) (G : List Frm) : Prop := w.ownsRow B T 13 v G.length (flatF G)
/-- What a type of frames and its slices have to be. -/
structure TyF (T SL : TypeId) : Prop where
  u : Tryz.prog.underlying SL = some (.slice T)
  i : (Tryz.prog.info? T).map (fun i => (i.zero, i.size, i.bytes)) = some (some (.agg #[.int .u64 0, .int .u64 0, .int .u64 0, .int .u64 0, .int .u64 0, .int .u64 0, .int .u64 0, .int .u64 0, .bool false, .string ⟨#[]⟩, .string ⟨#[]⟩, .string ⟨#[]⟩, .slice none 0 0]), 13, 144)
theorem tyP : TyF 48 126 := ⟨Tryz.underlying126, by kernel_rfl⟩
theorem push_F {T SL : TypeId} (hT : TyF T SL) (w : World) (B : Nat) (v : Value) (G : List Frm) (f : Frm) (ty : TypeId) (h : OwnF T w B v G) (hl : G.length ≤ 1000) (hb : B ≤ w.heap.size) :
    ∃ v' w', (Builtin.append_ #[SL, SL] ty #[v, .slice (some ⟨w.heap.size, 0, none⟩) 1 1]).run Tryz.prog (w.alloc (.cells #[.int .u64 f.kind, .int .u64 f.id, .int .u64 f.off, .int .u64 f.max, .int .u64 f.code, .int .u64 f.seq, .int .u64 f.prior, .int .u64 f.delay, .bool f.fin, .string ⟨f.data.toArray⟩, .string ⟨f.cid.toArray⟩, .string ⟨f.token.toArray⟩, .slice f.set.a f.set.n f.set.c] T)) = .ok v' w' ∧ OwnF T w' B v' (G ++ [f]) ∧ Below B w w' ∧ (∀ K, K < w.heap.size → v.ownBlock ≠ some K → w'.heap[K]? = w.heap[K]?) ∧ (∀ K, K < w.heap.size → v.ownBlock ≠ some K → v'.ownBlock ≠ some K) := by
  obtain ⟨i0, hi, hz0, hz1, hz2⟩ := info_parts hT.i
  have ho : (w.alloc (.cells #[.int .u64 f.kind, .int .u64 f.id, .int .u64 f.off, .int .u64 f.max, .int .u64 f.code, .int .u64 f.seq, .int .u64 f.prior, .int .u64 f.delay, .bool f.fin, .string ⟨f.data.toArray⟩, .string ⟨f.cid.toArray⟩, .string ⟨f.token.toArray⟩, .slice f.set.a f.set.n f.set.c] T)).ownsRow B T 13 v G.length (flatF G) := World.ownsRow.alloc h _
  obtain ⟨v', w', hr, h1, h2, h3, h4⟩ := run_append_own_at (P := Tryz.prog) (w.alloc (.cells #[.int .u64 f.kind, .int .u64 f.id, .int .u64 f.off, .int .u64 f.max, .int .u64 f.code, .int .u64 f.seq, .int .u64 f.prior, .int .u64 f.delay, .bool f.fin, .string ⟨f.data.toArray⟩, .string ⟨f.cid.toArray⟩, .string ⟨f.token.toArray⟩, .slice f.set.a f.set.n f.set.c] T)) B SL ty T i0 (.agg #[.int .u64 0, .int .u64 0, .int .u64 0, .int .u64 0, .int .u64 0, .int .u64 0, .int .u64 0, .int .u64 0, .bool false, .string ⟨#[]⟩, .string ⟨#[]⟩, .string ⟨#[]⟩, .slice none 0 0]) 13 144 hT.u hi hz0 hz1 hz2 rfl (by decide) v G.length (flatF G) ho ⟨w.heap.size, 0, none⟩ 1 1 (fcs f) rfl
    (by
      intro j u hu
      have e : (⟨w.heap.size, 0, none⟩ : Addr).add j = ⟨w.heap.size, j, none⟩ := by unfold Addr.add; split <;> simp_all
      have hn : (w.alloc (.cells #[.int .u64 f.kind, .int .u64 f.id, .int .u64 f.off, .int .u64 f.max, .int .u64 f.code, .int .u64 f.seq, .int .u64 f.prior, .int .u64 f.delay, .bool f.fin, .string ⟨f.data.toArray⟩, .string ⟨f.cid.toArray⟩, .string ⟨f.token.toArray⟩, .slice f.set.a f.set.n f.set.c] T)).heap[w.heap.size]? = some (.cells #[.int .u64 f.kind, .int .u64 f.id, .int .u64 f.off, .int .u64 f.max, .int .u64 f.code, .int .u64 f.seq, .int .u64 f.prior, .int .u64 f.delay, .bool f.fin, .string ⟨f.data.toArray⟩, .string ⟨f.cid.toArray⟩, .string ⟨f.token.toArray⟩, .slice f.set.a f.set.n f.set.c] T) := World.alloc_heap_new w _
      rw [e, Lib.cell_of_heap hn j, ← hu]
      show ((fcs f).toArray)[j]? = _
      rw [List.getElem?_toArray]) (fcs_one f) (by unfold maxLen; omega) (by omega) (by simp; omega)
  have e : flatF (G ++ [f]) = flatF G ++ fcs f := by rw [flatF_app]; simp [flatF]
  refine ⟨v', w', hr, ?_, ?_, ?_, ?_⟩
  · unfold OwnF
    rw [e, List.length_append]
    exact h1
  · exact ((Below.refl _ _).alloc hb _).grown h2 (by simp; omega) (fun k hk => (World.ownsRow.lt h k hk).1)
  · intro K hK hne
    refine (h2.block K (by simp; omega) (fun he => hne he.symm)).trans ?_
    exact Lib.alloc_old w _ K hK
  · intro K hK hne he
    rcases h4 with h4 | h4
    · exact hne (h4.symm.trans he)
    · rw [h4, World.size_alloc] at he
      injection he with he
      omega
theorem own_go {w w' : World} {B : Nat} {e : TypeId} {size n : Nat} {v : Value} {xs : List Value} (h : w.ownsRow B e size v n xs) (hb : Below w.heap.size w w') : w'.ownsRow B e size v n xs := by
  refine ⟨h.1, ?_⟩
  rcases h.2 with h2 | ⟨g, cap, cur, hv, hbg, hg, r⟩
  · exact .inl h2
  · exact .inr ⟨g, cap, cur, hv, hbg, (hb.block g (Array.getElem?_eq_some_iff.1 hg).1).trans hg, r⟩
/-- A row of frames that one reads. -/
def RowF (W : World) (v : Value) (G : List Frm) : Prop := ∃ a cap, v = .slice a G.length cap ∧ G.length ≤ cap ∧ (G ≠ [] → ∃ b off, a = some ⟨b, off, none⟩ ∧ b < W.heap.size ∧ ∀ i, i < G.length → ∀ j, j < 13 → W.cell? ⟨b, off + (i * 13 + j), none⟩ = (fcs (G.getD i frZ))[j]?)
theorem RowF.go {W W' : World} {v : Value} {G : List Frm} (h : RowF W v G) (hb : Below W.heap.size W W') : RowF W' v G := by
  obtain ⟨a, cap, hv, hc, hr⟩ := h
  refine ⟨a, cap, hv, hc, fun hne => ?_⟩
  obtain ⟨b, off, ha, hlt, hcl⟩ := hr hne
  exact ⟨b, off, ha, Nat.lt_of_lt_of_le hlt hb.size, fun i hi j hj => (hb.cell (p := ⟨b, off + (i * 13 + j), none⟩) hlt).trans (hcl i hi j hj)⟩
theorem OwnF.go {T : TypeId} {w w' : World} {B : Nat} {v : Value} {G : List Frm} (h : OwnF T w B v G) (hb : Below w.heap.size w w') : OwnF T w' B v G := own_go h hb
theorem OwnF.start (T : TypeId) (w : World) (B : Nat) : OwnF T w B (.slice none 0 0) [] := ⟨rfl, .inl ⟨rfl, rfl⟩⟩
theorem OwnF.form {T : TypeId} {w : World} {B : Nat} {v : Value} {G : List Frm} (h : OwnF T w B v G) : ∃ a c, v = .slice a G.length c := by
  rcases h.2 with ⟨hv, hz⟩ | ⟨g, cap, cur, hv, _⟩
  · exact ⟨none, 0, by rw [hz]; exact hv⟩
  · exact ⟨_, _, hv⟩
theorem OwnF.row {T : TypeId} {W : World} {B : Nat} {v : Value} {G : List Frm} (h0 : OwnF T W B v G) : RowF W v G := by
  rcases h0.2 with ⟨hv, hz⟩ | ⟨g, cap, cur, hv, hb, hg, hnc, r⟩
  · have hl : G = [] := List.eq_nil_of_length_eq_zero hz
    subst hl
    exact ⟨none, 0, hv, Nat.le_refl _, fun h => absurd rfl h⟩
  · subst hv
    refine ⟨some ⟨g, 0, none⟩, cap, rfl, hnc, fun _ => ⟨g, 0, rfl, (Array.getElem?_eq_some_iff.1 hg).1, fun i hi j hj => ?_⟩⟩
    have hlen := flatF_len G
    rw [Nat.zero_add]
    exact (World.ownsRow.cellAt h0 (i * 13 + j) (by omega)).trans (flatF_get G i j hi hj)
end Go.Proofs.YtoblmhpjendbfaaGreatDoor.Fm
namespace Go.Proofs.YtoblmhpjendbfaaGreatDoor.Rg
set_option maxRecDepth 20000
open Go.RowKit Go.Shelf
set_option linter.unusedVariables false
set_option linter.unusedSimpArgs false

theorem ints_nil : Fm.ints [] = [] := rfl
/-- A frame without ranges whose numbers are none below 0. -/
structure PlF (f : Fm.Frm) : Prop where
  k : ∃ k : Nat, f.kind = (k : Nat)
  pos : ∀ j, j < 7 → 0 ≤ Fm.nm f j
  set : f.set = ⟨none, 0, 0⟩
theorem PlF.fit {f : Fm.Frm} (h : PlF f) (w : World) : Fm.Fit w f.kind.toNat f [] := by
  obtain ⟨k, hk⟩ := h.k
  refine ⟨by rw [hk]; simp, ?_, h.pos⟩
  rw [h.set]
  exact ⟨none, 0, rfl, Nat.le_refl _, fun h => absurd rfl h⟩
theorem frK_pl (k : Nat) {id off mx code : Int} (d : ByteArray) (fi : Bool) (h1 : 0 ≤ id) (h2 : 0 ≤ off) (h3 : 0 ≤ mx) (h4 : 0 ≤ code) : PlF (frK k id off mx code d fi) := by
  refine ⟨⟨k, rfl⟩, fun j hj => ?_, rfl⟩
  match j, hj with
  | 0, _ => exact h1
  | 1, _ => exact h2
  | 2, _ => exact h4
  | 3, _ => exact h3
  | 4, _ => exact Int.le_refl 0
  | 5, _ => exact Int.le_refl 0
  | 6, _ => exact Int.le_refl 0
set_option maxHeartbeats 4000000 in
theorem fits_any (f : Fm.Frm) (most : Int) (w : World) (ht : Vm.Tab w) (hf : PlF f) :
    Calls Tryz.prog 76 #[.agg #[.int .u64 f.kind, .int .u64 f.id, .int .u64 f.off, .int .u64 f.max, .int .u64 f.code, .int .u64 f.seq, .int .u64 f.prior, .int .u64 f.delay, .bool f.fin, .string ⟨f.data.toArray⟩, .string ⟨f.cid.toArray⟩, .string ⟨f.token.toArray⟩, .slice f.set.a f.set.n f.set.c], .int .i64 most] w fun e w' => e = .returned (.bool (fitB f most)) ∧ Below w.heap.size w w' := by
  have HB0 := Lib.hid ((Below.refl w.heap.size w).alloc (Nat.le_refl _) (.cells #[.int .u64 f.kind, .int .u64 f.id, .int .u64 f.off, .int .u64 f.max, .int .u64 f.code, .int .u64 f.seq, .int .u64 f.prior, .int .u64 f.delay, .bool f.fin, .string ⟨f.data.toArray⟩, .string ⟨f.cid.toArray⟩, .string ⟨f.token.toArray⟩, .slice f.set.a f.set.n f.set.c] 48))
  have HT0 := Lib.hid (ht.below HB0.out ht.lt)
  by_cases hm : Fm.mayF f.kind.toNat f [] = true
  · have CP := Lib.hid (fun W (ht : Vm.Tab W) => Fm.put_yes f.kind.toNat f [] W ht (hf.fit W) (by rw [ints_nil]; exact hm))
    have HV : Hid (fitB f most = decide (((Fm.putL f []).length : Int) ≤ most)) := Lib.hid (by unfold fitB okF szF; rw [hm, Bool.true_and])
    obtain ⟨LL, hLL⟩ : ∃ L, Fm.putL f [] = L := ⟨_, rfl⟩
    rw [hLL] at CP HV
    rw [HV.out]
    clear hm hf ht hLL HV
    go_enter Tryz.func76, Tryz.ntmps76
    go_wp2_with fail
    refine (CP.out _ HT0.out).mono ?_
    rintro e w1 ⟨rfl, hb⟩
    have HB1 := Lib.hid (nextG HB0.out hb)
    clear hb
    go_wp2_with fail
    go_ret
    exact ⟨rfl, HB1.out⟩
  · have hm' : Fm.mayF f.kind.toNat f [] = false := by simpa using hm
    have CP := Lib.hid (fun W => Fm.put_no f.kind.toNat f [] W (hf.fit W) (by rw [ints_nil]; exact hm'))
    have HV : Hid (fitB f most = false) := Lib.hid (by unfold fitB okF; rw [hm', Bool.false_and])
    rw [HV.out]
    clear hm hm' hf ht HV
    go_enter Tryz.func76, Tryz.ntmps76
    go_wp2_with fail
    refine (CP.out _).mono ?_
    rintro e w1 ⟨rfl, hb⟩
    have HB1 := Lib.hid (nextG HB0.out hb)
    clear hb
    go_wp2_with fail
    go_ret
    exact ⟨rfl, HB1.out⟩
theorem infF : (Tryz.prog.info? 48).map (·.size) = some 13 := by kernel_rfl
/-- A whole frame out of its block. -/
theorem ld48 {ops : Array Oper} {rest : List Oper} {o : Oper} {a : Act} {w : World} {Q : Exit → Act → World → Prop} {y : Operand} (ho : o.op = .load 48 y) {g : Nat} {A : Array Value} (hc : w.heap[g]? = some (.cells A 48 (0, 0))) (hA : A.size = 13) (hx : a.eval y = .pointer (some ⟨g, 0, none⟩)) (hw : Region.wanted o (yielded ops a.tmps) = true)
    (h : wpList Tryz.prog ops Q rest (a.put o.dst (.agg A)) w) : wpList Tryz.prog ops Q (o :: rest) a w :=
  wpList_want hw (wp_load_row _ _ ho g hx _ _ _ _ hc Tryz.underlying48 rfl (by rw [hA]; exact infF) h)
/-- A whole frame into a block. -/
theorem st48 {ops : Array Oper} {rest : List Oper} {o : Oper} {a : Act} {w : World} {Q : Exit → Act → World → Prop} {y z : Operand} (ho : o.op = .store 48 y z) {g : Nat} {A B : Array Value} (hg : w.heap[g]? = some (.cells A 48 (0, 0))) (hA : A.size = 13) (hB : B.size = 13) (h1 : B.all (·.oneCell') = true) (hx : a.eval y = .pointer (some ⟨g, 0, none⟩)) (hy : a.eval z = .agg B) (hw : Region.wanted o (yielded ops a.tmps) = true)
    (h : wpList Tryz.prog ops Q rest (a.put o.dst undef) (w.setRow g B)) : wpList Tryz.prog ops Q (o :: rest) a w :=
  wpList_want hw (wp_store_row _ _ _ ho g _ hx hy _ _ hg (by rw [hB]; exact infF) (by rw [hA, hB]) h1 h)
theorem results_fr1 {fn : Func} {p ta : Tmp} (h : fn.results = #[.cell p 48, .tmp ta]) (tmps : Array Value) (g : Nat) (A : Array Value) (xa : Value) (w : World) (hp : tmps.getD p undef = .pointer (some ⟨g, 0, none⟩)) (ha : tmps.getD ta undef = xa) (hc : w.heap[g]? = some (.cells A 48 (0, 0))) (hA : A.size = 13) :
    (results fn tmps).run Tryz.prog w = .ok (.tuple #[.agg A, xa]) w := by
  have hp' : tmps[p]?.getD undef = .pointer (some ⟨g, 0, none⟩) := by simpa using hp
  have ha' : tmps[ta]?.getD undef = xa := by simpa using ha
  have hl := run_loadVar_row w g _ _ _ _ _ hc Tryz.underlying48 rfl (by rw [hA]; exact infF)
  simp [results, h, hp', ha', asAddr, Sem.run_bind, Result.andThen, hl]
theorem fr_one (k id off mx code : Int) (d : ByteArray) (fi : Bool) : (#[.int .u64 k, .int .u64 id, .int .u64 off, .int .u64 mx, .int .u64 code, .int .u64 0, .int .u64 0, .int .u64 0, .bool fi, .string d, .string ⟨#[]⟩, .string ⟨#[]⟩, .slice none 0 0] : Array Value).all (·.oneCell') = true := by simp [Value.oneCell']
theorem nxt_off {s : SS} (h : SsOk s) (most credit : Int) : 0 ≤ (nxt s most credit).off := by
  have h0 := h.b0
  have h1 := en_ge s
  unfold nxt
  split
  · split
    · show 0 ≤ en s; omega
    · exact Int.le_refl 0
  · unfold nxo
    split
    · show 0 ≤ max _ s.ba; omega
    · exact Int.le_refl 0
/-- What nextBytes tells. -/
def NbQ (id : Int) (w : World) (e : Ending) (w' : World) (o : Option NX) : Prop := Below w.heap.size w w' ∧ match o with
  | some N => e = .returned (.tuple #[.agg #[.int .u64 8, .int .u64 id, .int .u64 N.off, .int .u64 0, .int .u64 0, .int .u64 0, .int .u64 0, .int .u64 0, .bool N.fin, .string N.d, .string ⟨#[]⟩, .string ⟨#[]⟩, .slice none 0 0], .bool true])
  | none => e = .returned (.tuple #[.agg #[.int .u64 0, .int .u64 0, .int .u64 0, .int .u64 0, .int .u64 0, .int .u64 0, .int .u64 0, .int .u64 0, .bool false, .string ⟨#[]⟩, .string ⟨#[]⟩, .string ⟨#[]⟩, .slice none 0 0], .bool false])
/-- nextBytes' boxes. -/
structure NB (w W : World) (u v x : Value) (T : ByteArray) (s : TS) : Prop where
  q : TB W w.heap.size u v x s
  r : TR W u v x T s
  z : W.heap[w.heap.size + 1]? = some (.cells #[.int .u64 0, .int .u64 0, .int .u64 0, .int .u64 0, .int .u64 0, .int .u64 0, .int .u64 0, .int .u64 0, .bool false, .string ⟨#[]⟩, .string ⟨#[]⟩, .string ⟨#[]⟩, .slice none 0 0] 48 (0, 0))
  bl : Below w.heap.size w W
theorem NB.go {w W W' : World} {u v x : Value} {T : ByteArray} {s : TS} (h : NB w W u v x T s) (hb : Below W.heap.size W W') : NB w W' u v x T s := ⟨h.q.go hb, h.r.go hb, (hb.block _ (Array.getElem?_eq_some_iff.1 h.z).1).trans h.z, nextG h.bl hb⟩
set_option maxHeartbeats 4000000 in
theorem nb_any (s : TS) (T : ByteArray) (a1 : Option Addr) (n1 c1 : Nat) (a2 : Option Addr) (n2 c2 : Nat) (a3 : Option Addr) (n3 c3 : Nat) (id most more : Int) (w : World) (ht : Vm.Tab w) (hs : SsOk s.o) (hid : 0 ≤ id) (hcr : 0 ≤ s.cr) (htp : 0 ≤ s.o.tp) (hmr : 0 ≤ more) (hb : s.o.tp + more < 18446744073709551616) (hm : most < 9223372036854775808) (h : TR w (.slice a1 n1 c1) (.slice a2 n2 c2) (.slice a3 n3 c3) T s) :
    Calls Tryz.prog 117 #[.agg #[.int .u64 s.o.ba, .int .u64 s.o.tp, .string s.o.d, .slice a1 n1 c1, .slice a2 n2 c2, .bool s.o.fin, .bool s.o.ft, .bool s.o.fa, .int .u64 s.cr, .int .u64 s.cd, .int .u64 s.wy, .bool s.rs, .bool s.td, .bool s.gn, .int .u64 s.i.rd, .slice a3 n3 c3, .int .u64 s.i.fin, .bool s.i.kn, .int .u64 s.wn, .int .u64 s.lm, .bool s.rz, .bool s.bk, .bool s.sp, .int .u64 s.sc, .bool s.st], .int .u64 id, .int .i64 most, .int .u64 more] w fun e w' => NbQ id w e w' (nbT s id most more) := by
  have hn1 := rd_len h.ra
  have v1 : IntKind.u64.wrap (s.o.tp + more) = s.o.tp + more := IntWalk.u64_in _ (by omega)
  obtain ⟨C, hC⟩ : ∃ x, min s.cr (s.o.tp + more) = x := ⟨_, rfl⟩
  have hC0 : 0 ≤ C := by omega
  have mr1 := min_run s.cr (s.o.tp + more) C hC
  have CN := Lib.hid (fun (n : Int) (hn : n < 9223372036854775808) W (k1 : Rd W (.slice a1 n1 c1) s.o.ak) (k2 : Rd W (.slice a2 n2 c2) s.o.td) => next_any s.o a1 n1 c1 a2 n2 c2 n C W hs k1 k2 hn hC0 (nxt s.o n C) rfl)
  have HNO := Lib.hid (fun n => nxt_off hs n C)
  have CF := Lib.hid (fun (N : NX) (h0 : 0 ≤ N.off) W (ht : Vm.Tab W) => fits_any (strF id N) most W ht (frK_pl 8 N.d N.fin hid h0 (Int.le_refl 0) (Int.le_refl 0)))
  have HCC := Lib.hid hC
  obtain ⟨R, hR⟩ : ∃ x, nbT s id most more = x := ⟨_, rfl⟩
  rw [hR]
  have HR : Hid (nbL s.o C id most (min most 1200).toNat = R) := Lib.hid (by rw [← hR, ← hC]; rfl)
  have HB0 : Hid (NB w ((w.alloc (.cells #[.int .u64 s.o.ba, .int .u64 s.o.tp, .string s.o.d, .slice a1 n1 c1, .slice a2 n2 c2, .bool s.o.fin, .bool s.o.ft, .bool s.o.fa, .int .u64 s.cr, .int .u64 s.cd, .int .u64 s.wy, .bool s.rs, .bool s.td, .bool s.gn, .int .u64 s.i.rd, .slice a3 n3 c3, .int .u64 s.i.fin, .bool s.i.kn, .int .u64 s.wn, .int .u64 s.lm, .bool s.rz, .bool s.bk, .bool s.sp, .int .u64 s.sc, .bool s.st] 35)).alloc (.cells #[.int .u64 0, .int .u64 0, .int .u64 0, .int .u64 0, .int .u64 0, .int .u64 0, .int .u64 0, .int .u64 0, .bool false, .string ⟨#[]⟩, .string ⟨#[]⟩, .string ⟨#[]⟩, .slice none 0 0] 48)) (.slice a1 n1 c1) (.slice a2 n2 c2) (.slice a3 n3 c3) T s) := Lib.hid (by
    have h1 := (Below.refl w.heap.size w).alloc (Nat.le_refl _) (.cells #[.int .u64 s.o.ba, .int .u64 s.o.tp, .string s.o.d, .slice a1 n1 c1, .slice a2 n2 c2, .bool s.o.fin, .bool s.o.ft, .bool s.o.fa, .int .u64 s.cr, .int .u64 s.cd, .int .u64 s.wy, .bool s.rs, .bool s.td, .bool s.gn, .int .u64 s.i.rd, .slice a3 n3 c3, .int .u64 s.i.fin, .bool s.i.kn, .int .u64 s.wn, .int .u64 s.lm, .bool s.rz, .bool s.bk, .bool s.sp, .int .u64 s.sc, .bool s.st] 35)
    have h2 := (Below.refl (w.alloc (.cells #[.int .u64 s.o.ba, .int .u64 s.o.tp, .string s.o.d, .slice a1 n1 c1, .slice a2 n2 c2, .bool s.o.fin, .bool s.o.ft, .bool s.o.fa, .int .u64 s.cr, .int .u64 s.cd, .int .u64 s.wy, .bool s.rs, .bool s.td, .bool s.gn, .int .u64 s.i.rd, .slice a3 n3 c3, .int .u64 s.i.fin, .bool s.i.kn, .int .u64 s.wn, .int .u64 s.lm, .bool s.rz, .bool s.bk, .bool s.sp, .int .u64 s.sc, .bool s.st] 35)).heap.size (w.alloc (.cells #[.int .u64 s.o.ba, .int .u64 s.o.tp, .string s.o.d, .slice a1 n1 c1, .slice a2 n2 c2, .bool s.o.fin, .bool s.o.ft, .bool s.o.fa, .int .u64 s.cr, .int .u64 s.cd, .int .u64 s.wy, .bool s.rs, .bool s.td, .bool s.gn, .int .u64 s.i.rd, .slice a3 n3 c3, .int .u64 s.i.fin, .bool s.i.kn, .int .u64 s.wn, .int .u64 s.lm, .bool s.rz, .bool s.bk, .bool s.sp, .int .u64 s.sc, .bool s.st] 35))).alloc (Nat.le_refl _) (.cells #[.int .u64 0, .int .u64 0, .int .u64 0, .int .u64 0, .int .u64 0, .int .u64 0, .int .u64 0, .int .u64 0, .bool false, .string ⟨#[]⟩, .string ⟨#[]⟩, .string ⟨#[]⟩, .slice none 0 0] 48)
    have hz := heap_alloc_new (w.alloc (.cells #[.int .u64 s.o.ba, .int .u64 s.o.tp, .string s.o.d, .slice a1 n1 c1, .slice a2 n2 c2, .bool s.o.fin, .bool s.o.ft, .bool s.o.fa, .int .u64 s.cr, .int .u64 s.cd, .int .u64 s.wy, .bool s.rs, .bool s.td, .bool s.gn, .int .u64 s.i.rd, .slice a3 n3 c3, .int .u64 s.i.fin, .bool s.i.kn, .int .u64 s.wn, .int .u64 s.lm, .bool s.rz, .bool s.bk, .bool s.sp, .int .u64 s.sc, .bool s.st] 35)) (.cells #[.int .u64 0, .int .u64 0, .int .u64 0, .int .u64 0, .int .u64 0, .int .u64 0, .int .u64 0, .int .u64 0, .bool false, .string ⟨#[]⟩, .string ⟨#[]⟩, .string ⟨#[]⟩, .slice none 0 0] 48)
    rw [World.size_alloc] at hz
    exact ⟨(tb_made w (.slice a1 n1 c1) (.slice a2 n2 c2) (.slice a3 n3 c3) s).go h2, h.go (h1.alloc (by simp) _), hz, h1.alloc (by simp) _⟩)
  have HT := Lib.hid ht
  clear h hs ht hid hcr htp hmr hb hR hC hC0 hn1
  obtain ⟨M0, hM0⟩ : ∃ x, min most 1200 = x := ⟨_, rfl⟩
  have mr2 := min_run64 most 1200 M0 hM0
  have HM : Hid (M0 ≤ 1200 ∧ M0 ≤ most) := Lib.hid (by omega)
  rw [hM0] at HR
  replace hm := Lib.hid hm
  clear hM0
  go_enter Tryz.func117, Tryz.ntmps117
  go_upto_region 1 with (fail)
  generalize (w.alloc (.cells #[.int .u64 s.o.ba, .int .u64 s.o.tp, .string s.o.d, .slice a1 n1 c1, .slice a2 n2 c2, .bool s.o.fin, .bool s.o.ft, .bool s.o.fa, .int .u64 s.cr, .int .u64 s.cd, .int .u64 s.wy, .bool s.rs, .bool s.td, .bool s.gn, .int .u64 s.i.rd, .slice a3 n3 c3, .int .u64 s.i.fin, .bool s.i.kn, .int .u64 s.wn, .int .u64 s.lm, .bool s.rz, .bool s.bk, .bool s.sp, .int .u64 s.sc, .bool s.st] 35)).alloc (.cells #[.int .u64 0, .int .u64 0, .int .u64 0, .int .u64 0, .int .u64 0, .int .u64 0, .int .u64 0, .int .u64 0, .bool false, .string ⟨#[]⟩, .string ⟨#[]⟩, .string ⟨#[]⟩, .slice none 0 0] 48) = W0 at HB0 ⊢
  have z1 := HB0.out.q.c1
  have z8 := HB0.out.q.c8
  go_wp2_with fail
  clear z1 z8
  go_loopw [11, 12, 13, 14, 15, 16] (fun iv _ _ _ _ _ wr => ∃ j : Int, iv = .int .i64 j ∧ j ≤ 1200 ∧ j ≤ most ∧ nbL s.o C id most j.toNat = R ∧ NB w wr (.slice a1 n1 c1) (.slice a2 n2 c2) (.slice a3 n3 c3) T s) (fun iv _ _ _ _ _ _ => (intOf iv).toNat)
  case atStart => exact ⟨M0, rfl, HM.out.1, HM.out.2, HR.out, HB0.out⟩
  case round =>
    obtain ⟨j, rfl, hj, hjm, hN, hB⟩ := hrel
    have HB := Lib.hid hB
    have HN := Lib.hid hN
    have HJ := Lib.hid (And.intro hj hjm)
    clear hB hN hj hjm HR HM HB0 mr1 mr2
    by_cases hpos : 0 < j
    · obtain ⟨N, hNX⟩ : ∃ x, nxt s.o j C = x := ⟨_, rfl⟩
      have CNj := Lib.hid (CN.out j (by have := HJ.out.2; have := hm.out; omega))
      have hno := HNO.out j
      rw [hNX] at CNj hno
      have CFj := Lib.hid (CF.out N hno)
      have HL : Hid (nbL s.o C id most j.toNat = if N.iz = true ∧ fitB (strF id N) most = true then some N else nbL s.o C id most (j - 1).toNat) := Lib.hid (by
        obtain ⟨m, rfl⟩ : ∃ m : Nat, j = ((m + 1 : Nat) : Int) := ⟨(j - 1).toNat, by omega⟩
        rw [show (((m + 1 : Nat) : Int)).toNat = m + 1 by omega, show (((m + 1 : Nat) : Int) - 1).toNat = m by omega, nbL, hNX])
      obtain ⟨FT1, hFT1⟩ : ∃ b, fitB (strF id N) most = b := ⟨_, rfl⟩
      rw [hFT1] at CFj HL
      clear hNX hno CN CF HNO hFT1
      obtain ⟨off, d, fi, iz⟩ := N
      have CFk : Hid (∀ W, Vm.Tab W → Calls Tryz.prog 76 #[.agg #[.int .u64 8, .int .u64 id, .int .u64 off, .int .u64 0, .int .u64 0, .int .u64 0, .int .u64 0, .int .u64 0, .bool fi, .string d, .string ⟨#[]⟩, .string ⟨#[]⟩, .slice none 0 0], .int .i64 most] W fun e w' => e = .returned (.bool FT1) ∧ Below W.heap.size W w') := Lib.hid (fun W h => CFj.out W h)
      simp only at CNj HL
      clear CFj
      have z0 := HB.out.q.c0
      have z1 := HB.out.q.c1
      have z2 := HB.out.q.c2
      have z3 := HB.out.q.c3
      have z4 := HB.out.q.c4
      have z5 := HB.out.q.c5
      have z6 := HB.out.q.c6
      have z7 := HB.out.q.c7
      have v3 : IntKind.i64.wrap (j - 1) = j - 1 := IntWalk.i64_in _ (by have := HJ.out; omega)
      have HAL : Hid (∀ W : World, NB w W (.slice a1 n1 c1) (.slice a2 n2 c2) (.slice a3 n3 c3) T s → NB w (W.alloc (.cells #[.int .u64 8, .int .u64 id, .int .u64 off, .int .u64 0, .int .u64 0, .int .u64 0, .int .u64 0, .int .u64 0, .bool fi, .string d, .string ⟨#[]⟩, .string ⟨#[]⟩, .slice none 0 0] 48)) (.slice a1 n1 c1) (.slice a2 n2 c2) (.slice a3 n3 c3) T s) := Lib.hid (fun W h => h.go ((Below.refl _ _).alloc (Nat.le_refl _) _))
      cases iz with
      | false =>
        rw [if_neg (by rintro ⟨h, _⟩; cases h)] at HL
        go_wp2_with fail
        refine (CNj.out _ HB.out.r.ra HB.out.r.rt).mono ?_
        rintro e w1 ⟨rfl, hb⟩
        have HB1 := Lib.hid (HB.out.go hb)
        clear hb z0 z1 z2 z3 z4 z5 z6 z7
        go_wp2_with fail
        go_roundw
        case rel => exact ⟨j - 1, rfl, by have := HJ.out; omega, by have := HJ.out; omega, HL.out.symm.trans HN.out, HAL.out _ HB1.out⟩
        case measure => have := hpos; simp [intOf]; omega
      | true =>
        go_wp2_with fail
        refine (CNj.out _ HB.out.r.ra HB.out.r.rt).mono ?_
        rintro e w1 ⟨rfl, hb⟩
        have HB1 := Lib.hid (HB.out.go hb)
        have HB2 := Lib.hid (HAL.out _ HB1.out)
        have HT2 := Lib.hid (HT.out.below HB2.out.bl HT.out.lt)
        clear hb z0 z1 z2 z3 z4 z5 z6 z7
        go_wp2_with fail
        refine (CFk.out _ HT2.out).mono ?_
        rintro e w3 ⟨rfl, hb⟩
        have HB3 := Lib.hid (HB2.out.go hb)
        have HK : Hid (w3.heap[w1.heap.size]? = some (.cells #[.int .u64 8, .int .u64 id, .int .u64 off, .int .u64 0, .int .u64 0, .int .u64 0, .int .u64 0, .int .u64 0, .bool fi, .string d, .string ⟨#[]⟩, .string ⟨#[]⟩, .slice none 0 0] 48 (0, 0))) := Lib.hid ((hb.block _ (by simp)).trans (heap_alloc_new w1 _))
        clear hb
        cases FT1 with
        | false =>
          rw [if_neg (by rintro ⟨_, h⟩; cases h)] at HL
          go_wp2_with fail
          go_roundw
          case rel => exact ⟨j - 1, rfl, by have := HJ.out; omega, by have := HJ.out; omega, HL.out.symm.trans HN.out, HB3.out⟩
          case measure => have := hpos; simp [intOf]; omega
        | true =>
          rw [if_pos (by simp)] at HL
          have HV : Hid (R = some ⟨off, d, fi, true⟩) := Lib.hid (HN.out.symm.trans HL.out)
          have HBW := Lib.hid (below_setRow HB3.out.bl (Nat.le_succ _) #[.int .u64 8, .int .u64 id, .int .u64 off, .int .u64 0, .int .u64 0, .int .u64 0, .int .u64 0, .int .u64 0, .bool fi, .string d, .string ⟨#[]⟩, .string ⟨#[]⟩, .slice none 0 0])
          have HZW : Hid ((w3.setRow (w.heap.size + 1) #[.int .u64 8, .int .u64 id, .int .u64 off, .int .u64 0, .int .u64 0, .int .u64 0, .int .u64 0, .int .u64 0, .bool fi, .string d, .string ⟨#[]⟩, .string ⟨#[]⟩, .slice none 0 0]).heap[w.heap.size + 1]? = some (.cells #[.int .u64 8, .int .u64 id, .int .u64 off, .int .u64 0, .int .u64 0, .int .u64 0, .int .u64 0, .int .u64 0, .bool fi, .string d, .string ⟨#[]⟩, .string ⟨#[]⟩, .slice none 0 0] 48 (0, 0))) := Lib.hid (setRow_heap w3 _ _ _ _ _ HB3.out.z)
          go_wp2_with (first | refine ld48 rfl HK.out rfl rfl (by rfl) ?_ | refine st48 rfl HB3.out.z rfl rfl (fr_one 8 id off 0 0 d fi) rfl rfl (by rfl) ?_)
          generalize World.setRow _ _ _ = WW at HBW HZW ⊢
          refine bodyPost_ret (results_fr1 Tryz.results117 _ (w.heap.size + 1) _ (.bool true) _ rfl rfl HZW.out rfl) rfl ?_
          rw [HV.out]
          exact ⟨HBW.out, by first | rfl | trivial⟩
    · have HV : Hid (R = none) := Lib.hid (by rw [← HN.out, show j.toNat = 0 by omega]; rfl)
      have HBW := Lib.hid (below_setRow HB.out.bl (Nat.le_succ _) #[.int .u64 0, .int .u64 0, .int .u64 0, .int .u64 0, .int .u64 0, .int .u64 0, .int .u64 0, .int .u64 0, .bool false, .string ⟨#[]⟩, .string ⟨#[]⟩, .string ⟨#[]⟩, .slice none 0 0])
      have HZW : Hid ((wr.setRow (w.heap.size + 1) #[.int .u64 0, .int .u64 0, .int .u64 0, .int .u64 0, .int .u64 0, .int .u64 0, .int .u64 0, .int .u64 0, .bool false, .string ⟨#[]⟩, .string ⟨#[]⟩, .string ⟨#[]⟩, .slice none 0 0]).heap[w.heap.size + 1]? = some (.cells #[.int .u64 0, .int .u64 0, .int .u64 0, .int .u64 0, .int .u64 0, .int .u64 0, .int .u64 0, .int .u64 0, .bool false, .string ⟨#[]⟩, .string ⟨#[]⟩, .string ⟨#[]⟩, .slice none 0 0] 48 (0, 0))) := Lib.hid (setRow_heap wr _ _ _ _ _ HB.out.z)
      clear CN CF HNO
      go_wp2_with (first | refine st48 rfl HB.out.z rfl rfl (fr_one 0 0 0 0 0 ⟨#[]⟩ false) rfl rfl (by rfl) ?_)
      generalize World.setRow _ _ _ = WW at HBW HZW ⊢
      refine bodyPost_ret (results_fr1 Tryz.results117 _ (w.heap.size + 1) _ (.bool false) _ rfl rfl HZW.out rfl) rfl ?_
      rw [HV.out]
      exact ⟨HBW.out, by first | rfl | trivial⟩
end Go.Proofs.YtoblmhpjendbfaaGreatDoor.Rg
namespace Go.Proofs.YtoblmhpjendbfaaGreatDoor.Rg
set_option maxRecDepth 20000
open Go.RowKit Go.Shelf
set_option linter.unusedVariables false
set_option linter.unusedSimpArgs false

/-- What due holds: the state, the frames so far. -/
structure DU (w W : World) (u v x : Value) (s : TS) (l : Value) (G : List Fm.Frm) : Prop where
  q : TB W w.heap.size u v x s
  own : Fm.OwnF 48 W (w.heap.size + 1) l G
  bl : Below w.heap.size w W
  hl : G.length ≤ 10
theorem DU.go {w W W' : World} {u v x : Value} {s : TS} {l : Value} {G : List Fm.Frm} (h : DU w W u v x s l G) (hb : Below W.heap.size W W') : DU w W' u v x s l G := ⟨h.q.go hb, h.own.go hb, nextG h.bl hb, h.hl⟩
theorem DU.push {w W : World} {u v x : Value} {s : TS} {l : Value} {G : List Fm.Frm} (h : DU w W u v x s l G) (f : Fm.Frm) (ty : TypeId) (hl : G.length ≤ 9) :
    ∃ a c W', (Builtin.append_ #[126, 126] ty #[l, .slice (some ⟨W.heap.size, 0, none⟩) 1 1]).run Tryz.prog (W.alloc (.cells #[.int .u64 f.kind, .int .u64 f.id, .int .u64 f.off, .int .u64 f.max, .int .u64 f.code, .int .u64 f.seq, .int .u64 f.prior, .int .u64 f.delay, .bool f.fin, .string ⟨f.data.toArray⟩, .string ⟨f.cid.toArray⟩, .string ⟨f.token.toArray⟩, .slice f.set.a f.set.n f.set.c] 48)) = .ok (.slice a (G.length + 1) c) W' ∧ DU w W' u v x s (.slice a (G.length + 1) c) (G ++ [f]) := by
  have hlt := h.q.lt
  obtain ⟨v', w', hr, h1, h2, h3, h4⟩ := Fm.push_F Fm.tyP W (w.heap.size + 1) l G f ty h.own (by omega) (by omega)
  obtain ⟨a, c, rfl⟩ := h1.form
  rw [List.length_append] at hr h1
  exact ⟨a, c, w', hr, (h2.block _ (by omega)).trans h.q, h1, h.bl.trans (h2.mono (Nat.le_succ _)), by rw [List.length_append]; simp; omega⟩
theorem l1_len (s : TS) (id : Int) : (l1T s id).length ≤ 1 := by unfold l1T; split <;> simp
theorem l2_len (s : TS) (id : Int) : (l2T s id).length ≤ 2 := by unfold l2T; have := l1_len s id; rw [List.length_append]; split <;> simp <;> omega
theorem l3_len (s : TS) (id : Int) : (l3T s id).length ≤ 3 := by unfold l3T; have := l2_len s id; rw [List.length_append]; split <;> simp <;> omega
def lastL (s : TS) (id : Int) (o : Option NX) : List Fm.Frm := match o with | some N => if s.rs then [] else [strF id N] | none => []
theorem due_last (s : TS) (id most more : Int) : dueL s id most more = l3T s id ++ lastL s id (nbT s id most more) := by
  unfold dueL lastL
  cases nbT s id most more <;> rfl
set_option maxRecDepth 100000 in
set_option maxHeartbeats 4000000 in
theorem due_any (s : TS) (T : ByteArray) (a1 : Option Addr) (n1 c1 : Nat) (a2 : Option Addr) (n2 c2 : Nat) (a3 : Option Addr) (n3 c3 : Nat) (id most more : Int) (w : World) (ht : Vm.Tab w) (hs : SsOk s.o) (hid : 0 ≤ id) (hcr : 0 ≤ s.cr) (htp : 0 ≤ s.o.tp) (hmr : 0 ≤ more) (hb : s.o.tp + more < 18446744073709551616) (hm : most < 9223372036854775808) (h : TR w (.slice a1 n1 c1) (.slice a2 n2 c2) (.slice a3 n3 c3) T s) :
    Calls Tryz.prog 75 #[.agg #[.int .u64 s.o.ba, .int .u64 s.o.tp, .string s.o.d, .slice a1 n1 c1, .slice a2 n2 c2, .bool s.o.fin, .bool s.o.ft, .bool s.o.fa, .int .u64 s.cr, .int .u64 s.cd, .int .u64 s.wy, .bool s.rs, .bool s.td, .bool s.gn, .int .u64 s.i.rd, .slice a3 n3 c3, .int .u64 s.i.fin, .bool s.i.kn, .int .u64 s.wn, .int .u64 s.lm, .bool s.rz, .bool s.bk, .bool s.sp, .int .u64 s.sc, .bool s.st], .int .u64 id, .int .i64 most, .int .u64 more] w fun e w' => ∃ l, e = .returned l ∧ Fm.RowF w' l (dueL s id most more) ∧ Below w.heap.size w w' := by
  have CN := Lib.hid (fun W (ht : Vm.Tab W) (hr : TR W (.slice a1 n1 c1) (.slice a2 n2 c2) (.slice a3 n3 c3) T s) => nb_any s T a1 n1 c1 a2 n2 c2 a3 n3 c3 id most more W ht hs hid hcr htp hmr hb hm hr)
  have HD0 : Hid (DU w (w.alloc (.cells #[.int .u64 s.o.ba, .int .u64 s.o.tp, .string s.o.d, .slice a1 n1 c1, .slice a2 n2 c2, .bool s.o.fin, .bool s.o.ft, .bool s.o.fa, .int .u64 s.cr, .int .u64 s.cd, .int .u64 s.wy, .bool s.rs, .bool s.td, .bool s.gn, .int .u64 s.i.rd, .slice a3 n3 c3, .int .u64 s.i.fin, .bool s.i.kn, .int .u64 s.wn, .int .u64 s.lm, .bool s.rz, .bool s.bk, .bool s.sp, .int .u64 s.sc, .bool s.st] 35)) (.slice a1 n1 c1) (.slice a2 n2 c2) (.slice a3 n3 c3) s (.slice none 0 0) []) := Lib.hid ⟨tb_made w (.slice a1 n1 c1) (.slice a2 n2 c2) (.slice a3 n3 c3) s, Fm.OwnF.start _ _ _, (Below.refl _ _).alloc (Nat.le_refl _) _, Nat.zero_le _⟩
  have HR0 := Lib.hid h
  have HT := Lib.hid ht
  obtain ⟨R, hR⟩ : ∃ x, nbT s id most more = x := ⟨_, rfl⟩
  rw [hR] at CN
  have HL : Hid (dueL s id most more = l3T s id ++ lastL s id R) := Lib.hid (by rw [due_last, hR])
  rw [HL.out]
  clear h ht hs hid hcr htp hmr hb hm hR HL
  go_enter Tryz.func75, Tryz.ntmps75
  go_upto_region 1 with (fail)
  generalize w.alloc (.cells #[.int .u64 s.o.ba, .int .u64 s.o.tp, .string s.o.d, .slice a1 n1 c1, .slice a2 n2 c2, .bool s.o.fin, .bool s.o.ft, .bool s.o.fa, .int .u64 s.cr, .int .u64 s.cd, .int .u64 s.wy, .bool s.rs, .bool s.td, .bool s.gn, .int .u64 s.i.rd, .slice a3 n3 c3, .int .u64 s.i.fin, .bool s.i.kn, .int .u64 s.wn, .int .u64 s.lm, .bool s.rz, .bool s.bk, .bool s.sp, .int .u64 s.sc, .bool s.st] 35) = W0 at HD0 ⊢
  obtain ⟨fl, hfl⟩ : ∃ b, s.td = b := ⟨_, rfl⟩
  have z12 := HD0.out.q.c12
  rw [hfl] at z12
  have HFL := Lib.hid hfl
  clear hfl
  have z9 := HD0.out.q.c9
  have z1 := HD0.out.q.c1
  go_upto_if 13 with (fail)
  go_cut [9] from 14 to 23 (fun v9 W => ∃ (a : Option Addr) (c : Nat), v9 = .slice a (l1T s id).length c ∧ DU w W (.slice a1 n1 c1) (.slice a2 n2 c2) (.slice a3 n3 c3) s (.slice a (l1T s id).length c) (l1T s id))
  case first =>
    cases fl with
    | true =>
      have hG : l1T s id = [] ++ [rstF s id] := by unfold l1T; rw [if_pos HFL.out]; rfl
      have HGG := Lib.hid hG
      clear hG
      obtain ⟨a, c, Wp, hrun, hD⟩ := HD0.out.push (rstF s id) 126 (by simp)
      have HRUN : Hid ((Builtin.append_ #[126, 126] 126 #[.slice none 0 0, .slice (some ⟨W0.heap.size, 0, none⟩) 1 1]).run Tryz.prog (W0.alloc (.cells #[.int .u64 4, .int .u64 id, .int .u64 0, .int .u64 s.o.tp, .int .u64 s.cd, .int .u64 0, .int .u64 0, .int .u64 0, .bool false, .string ⟨#[]⟩, .string ⟨#[]⟩, .string ⟨#[]⟩, .slice none 0 0] 48)) = .ok (.slice a (([]).length + 1) c) Wp) := Lib.hid hrun
      have HD := Lib.hid hD
      clear hrun hD
      go_wp2_with (at_builtin; refine Lib.wpList_append_run _ rfl _ _ _ _ rfl _ _ rfl rfl _ _ HRUN.out ?_)
      go_meet
      case rel => exact ⟨a, c, by rw [HGG.out, List.length_append]; rfl, by rw [HGG.out, List.length_append]; exact HD.out⟩
    | false =>
      have hG : l1T s id = [] := by unfold l1T; rw [HFL.out]; rfl
      have HGG := Lib.hid hG
      clear hG
      go_wp2_with fail
      go_meet
      case rel => exact ⟨none, 0, by rw [HGG.out]; rfl, by rw [HGG.out]; exact HD0.out⟩
  case rest =>
    obtain ⟨b1, k1, rfl, hD⟩ := hcut
    have HD1 := Lib.hid hD
    clear hD HFL z12 z9 z1 HD0
    generalize wc = W1 at HD1 ⊢
    obtain ⟨fl, hfl⟩ : ∃ b, s.st = b := ⟨_, rfl⟩
    have z24 := HD1.out.q.c24
    rw [hfl] at z24
    have HFL := Lib.hid hfl
    clear hfl
    have z23 := HD1.out.q.c23
    go_upto_if 25 with (fail)
    go_cut [9] from 26 to 32 (fun v9 W => ∃ (a : Option Addr) (c : Nat), v9 = .slice a (l2T s id).length c ∧ DU w W (.slice a1 n1 c1) (.slice a2 n2 c2) (.slice a3 n3 c3) s (.slice a (l2T s id).length c) (l2T s id))
    case first =>
      cases fl with
      | true =>
        have hG : l2T s id = l1T s id ++ [stpF s id] := by unfold l2T; rw [if_pos HFL.out]
        have HGG := Lib.hid hG
        clear hG
        obtain ⟨a, c, Wp, hrun, hD⟩ := HD1.out.push (stpF s id) 126 (by have := l1_len s id; omega)
        have HRUN : Hid ((Builtin.append_ #[126, 126] 126 #[.slice b1 (l1T s id).length k1, .slice (some ⟨W1.heap.size, 0, none⟩) 1 1]).run Tryz.prog (W1.alloc (.cells #[.int .u64 5, .int .u64 id, .int .u64 0, .int .u64 0, .int .u64 s.sc, .int .u64 0, .int .u64 0, .int .u64 0, .bool false, .string ⟨#[]⟩, .string ⟨#[]⟩, .string ⟨#[]⟩, .slice none 0 0] 48)) = .ok (.slice a ((l1T s id).length + 1) c) Wp) := Lib.hid hrun
        have HD := Lib.hid hD
        clear hrun hD
        go_wp2_with (at_builtin; refine Lib.wpList_append_run _ rfl _ _ _ _ rfl _ _ rfl rfl _ _ HRUN.out ?_)
        go_meet
        case rel => exact ⟨a, c, by rw [HGG.out, List.length_append]; rfl, by rw [HGG.out, List.length_append]; exact HD.out⟩
      | false =>
        have hG : l2T s id = l1T s id := by unfold l2T; rw [HFL.out]; simp
        have HGG := Lib.hid hG
        clear hG
        go_wp2_with fail
        go_meet
        case rel => exact ⟨b1, k1, by rw [HGG.out], by rw [HGG.out]; exact HD1.out⟩
    case rest =>
      obtain ⟨b2, k2, rfl, hD⟩ := hcut
      have HD2 := Lib.hid hD
      clear hD HFL z24 z23 HD1
      generalize wc = W2 at HD2 ⊢
      obtain ⟨fl, hfl⟩ : ∃ b, s.rz = b := ⟨_, rfl⟩
      have z20 := HD2.out.q.c20
      rw [hfl] at z20
      have HFL := Lib.hid hfl
      clear hfl
      have z19 := HD2.out.q.c19
      go_upto_if 34 with (fail)
      go_cut [9] from 35 to 41 (fun v9 W => ∃ (a : Option Addr) (c : Nat), v9 = .slice a (l3T s id).length c ∧ DU w W (.slice a1 n1 c1) (.slice a2 n2 c2) (.slice a3 n3 c3) s (.slice a (l3T s id).length c) (l3T s id))
      case first =>
        cases fl with
        | true =>
          have hG : l3T s id = l2T s id ++ [mxF s id] := by unfold l3T; rw [if_pos HFL.out]
          have HGG := Lib.hid hG
          clear hG
          obtain ⟨a, c, Wp, hrun, hD⟩ := HD2.out.push (mxF s id) 126 (by have := l2_len s id; omega)
          have HRUN : Hid ((Builtin.append_ #[126, 126] 126 #[.slice b2 (l2T s id).length k2, .slice (some ⟨W2.heap.size, 0, none⟩) 1 1]).run Tryz.prog (W2.alloc (.cells #[.int .u64 17, .int .u64 id, .int .u64 0, .int .u64 s.lm, .int .u64 0, .int .u64 0, .int .u64 0, .int .u64 0, .bool false, .string ⟨#[]⟩, .string ⟨#[]⟩, .string ⟨#[]⟩, .slice none 0 0] 48)) = .ok (.slice a ((l2T s id).length + 1) c) Wp) := Lib.hid hrun
          have HD := Lib.hid hD
          clear hrun hD
          go_wp2_with (at_builtin; refine Lib.wpList_append_run _ rfl _ _ _ _ rfl _ _ rfl rfl _ _ HRUN.out ?_)
          go_meet
          case rel => exact ⟨a, c, by rw [HGG.out, List.length_append]; rfl, by rw [HGG.out, List.length_append]; exact HD.out⟩
        | false =>
          have hG : l3T s id = l2T s id := by unfold l3T; rw [HFL.out]; simp
          have HGG := Lib.hid hG
          clear hG
          go_wp2_with fail
          go_meet
          case rel => exact ⟨b2, k2, by rw [HGG.out], by rw [HGG.out]; exact HD2.out⟩
      case rest =>
        obtain ⟨b3, k3, rfl, hD⟩ := hcut
        have HD3 := Lib.hid hD
        clear hD HFL z20 z19 HD2
        generalize wc = W3 at HD3 ⊢
        have HT3 := Lib.hid (HT.out.below HD3.out.bl HT.out.lt)
        have HR3 := Lib.hid (HR0.out.go HD3.out.bl)
        have HLN := Lib.hid (l3_len s id)
        go_wp2_with (refine ld35 rfl HD3.out.q rfl (by rfl) ?_)
        refine (CN.out _ HT3.out HR3.out).mono ?_
        rintro e w4 ⟨hb, he⟩
        have HD4 := Lib.hid (HD3.out.go hb)
        clear hb HT3 HR3 CN HR0 HT
        cases R with
        | none =>
          simp only at he
          subst he
          have HD5 := Lib.hid (HD4.out.go ((Below.refl w4.heap.size w4).alloc (Nat.le_refl _) (.cells #[.int .u64 0, .int .u64 0, .int .u64 0, .int .u64 0, .int .u64 0, .int .u64 0, .int .u64 0, .int .u64 0, .bool false, .string ⟨#[]⟩, .string ⟨#[]⟩, .string ⟨#[]⟩, .slice none 0 0] 48)))
          have HQ : Hid (lastL s id none = []) := Lib.hid rfl
          go_wp2_with fail
          go_ret
          refine ⟨_, rfl, ?_, HD5.out.bl⟩
          rw [HQ.out, List.append_nil]
          exact HD5.out.own.row
        | some N =>
          simp only at he
          subst he
          have HD5 := Lib.hid (HD4.out.go ((Below.refl w4.heap.size w4).alloc (Nat.le_refl _) (.cells #[.int .u64 8, .int .u64 id, .int .u64 N.off, .int .u64 0, .int .u64 0, .int .u64 0, .int .u64 0, .int .u64 0, .bool N.fin, .string N.d, .string ⟨#[]⟩, .string ⟨#[]⟩, .slice none 0 0] 48)))
          have HK : Hid ((w4.alloc (.cells #[.int .u64 8, .int .u64 id, .int .u64 N.off, .int .u64 0, .int .u64 0, .int .u64 0, .int .u64 0, .int .u64 0, .bool N.fin, .string N.d, .string ⟨#[]⟩, .string ⟨#[]⟩, .slice none 0 0] 48)).heap[w4.heap.size]? = some (.cells #[.int .u64 8, .int .u64 id, .int .u64 N.off, .int .u64 0, .int .u64 0, .int .u64 0, .int .u64 0, .int .u64 0, .bool N.fin, .string N.d, .string ⟨#[]⟩, .string ⟨#[]⟩, .slice none 0 0] 48 (0, 0))) := Lib.hid (heap_alloc_new w4 _)
          go_upto_region 9 with (fail)
          generalize w4.alloc (.cells #[.int .u64 8, .int .u64 id, .int .u64 N.off, .int .u64 0, .int .u64 0, .int .u64 0, .int .u64 0, .int .u64 0, .bool N.fin, .string N.d, .string ⟨#[]⟩, .string ⟨#[]⟩, .slice none 0 0] 48) = W5 at HD5 HK ⊢
          obtain ⟨fl, hfl⟩ : ∃ b, s.rs = b := ⟨_, rfl⟩
          have z11 := HD5.out.q.c11
          rw [hfl] at z11
          have HFL := Lib.hid hfl
          clear hfl
          cases fl with
          | true =>
            have HQ : Hid (lastL s id (some N) = []) := Lib.hid (by unfold lastL; simp only; rw [HFL.out]; rfl)
            go_wp2_with fail
            go_ret
            refine ⟨_, rfl, ?_, HD5.out.bl⟩
            rw [HQ.out, List.append_nil]
            exact HD5.out.own.row
          | false =>
            have HQ : Hid (lastL s id (some N) = [strF id N]) := Lib.hid (by unfold lastL; simp only; rw [HFL.out]; rfl)
            obtain ⟨a, c, Wp, hrun, hD⟩ := HD5.out.push (strF id N) 126 (by have := HLN.out; omega)
            have HRUN : Hid ((Builtin.append_ #[126, 126] 126 #[.slice b3 (l3T s id).length k3, .slice (some ⟨W5.heap.size, 0, none⟩) 1 1]).run Tryz.prog (W5.alloc (.cells #[.int .u64 8, .int .u64 id, .int .u64 N.off, .int .u64 0, .int .u64 0, .int .u64 0, .int .u64 0, .int .u64 0, .bool N.fin, .string N.d, .string ⟨#[]⟩, .string ⟨#[]⟩, .slice none 0 0] 48)) = .ok (.slice a ((l3T s id).length + 1) c) Wp) := Lib.hid hrun
            have HD := Lib.hid hD
            clear hrun hD
            go_wp2_with (first | refine ld48 rfl HK.out rfl rfl (by rfl) ?_ | (at_builtin; refine Lib.wpList_append_run _ rfl _ _ _ _ rfl _ _ rfl rfl _ _ HRUN.out ?_))
            go_ret
            refine ⟨_, rfl, ?_, HD.out.bl⟩
            rw [HQ.out]
            exact HD.out.own.row
end Go.Proofs.YtoblmhpjendbfaaGreatDoor.Rg
