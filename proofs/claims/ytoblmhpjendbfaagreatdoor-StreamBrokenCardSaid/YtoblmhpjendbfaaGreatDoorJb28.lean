/- Layer 15: a region that draws, and stores at its end into what it loaded · Layer 15: a queue; what is laid behind it, and left behind -/
import Derived.Test.YtoblmhpjendbfaaGreatDoorJb13
import Derived.Deep.RegionHeld3
import Derived.Lib.Hide
import Derived.Test.YtoblmhpjendbfaaGreatDoorJb27
namespace Go.Proofs.YtoblmhpjendbfaaGreatDoor.Rg
set_option maxRecDepth 20000
open Go.RowKit Go.Shelf
set_option linter.unusedVariables false
section
variable {P : Program} {ops : Array Oper} {Q : Exit → Act → World → Prop} {md : Region.Mode} {S : World → Prop} {E : Nat → Bool}

/-- As 'wpAnyH', but the operations E need not keep S: they wait for all that is loaded. -/
def wpAnyE (P : Program) (md : Region.Mode) (ops : Array Oper) (Q : Exit → Act → World → Prop) (S : World → Prop) (E : Nat → Bool) : Nat → Array Bool → Act → World → Prop
  | 0, listed, a, w => Region.ready md ops listed = [] ∧ Q .normal a w
  | fuel + 1, listed, a, w =>
    (Region.ready md ops listed = [] → Q .normal a w) ∧
    ∀ i ∈ Region.ready md ops listed, wpOp P ops Q i (fun a' w' => (E i = false → S w → S w') ∧ wpAnyE P md ops Q S E fuel (listed.setIfInBounds i true) a' w') a w
theorem wpAny_of_E : ∀ (fuel : Nat) (listed : Array Bool) (a : Act) (w : World), wpAnyE P md ops Q S E fuel listed a w → wpAny P md ops Q fuel listed a w
  | 0, _, _, _, h => h
  | fuel + 1, _, _, _, h => ⟨h.1, fun i hi => wpOp_mono (fun a' w' h' => wpAny_of_E fuel _ a' w' h'.2) (h.2 i hi)⟩
/-- Is, of all that are listed, what they wait for listed, too? -/
def Closed (md : Region.Mode) (ops : Array Oper) (listed : Array Bool) : Prop :=
  ∀ m om, ops[m]? = some om → listed.getD m false = true → ∀ e ∈ om.after, Region.binds md e = true → listed.getD e.on false = true
def closedB (md : Region.Mode) (ops : Array Oper) (listed : Array Bool) : Bool :=
  (List.range ops.size).all fun m => !(listed.getD m false) || (match ops[m]? with | some o => o.after.toList.all (fun e => !(Region.binds md e) || listed.getD e.on false) | none => true)
theorem closedB_spec {listed : Array Bool} (h : closedB md ops listed = true) : Closed md ops listed := by
  intro m om hm hl e he hb
  unfold closedB at h
  rw [List.all_eq_true] at h
  have h1 := h m (List.mem_range.2 (Array.getElem?_eq_some_iff.1 hm).1)
  rw [hl, hm] at h1
  simp only [Bool.not_true, Bool.false_or] at h1
  rw [List.all_eq_true] at h1
  have h2 := h1 e (Array.mem_toList_iff.2 he)
  rw [hb] at h2
  simpa using h2
theorem Closed.set {listed : Array Bool} {j : Nat} (h : Closed md ops listed) (hj : j ∈ Region.ready md ops listed) : Closed md ops (listed.setIfInBounds j true) := by
  intro m om hm hl e he hb
  by_cases hmj : j = m
  · subst hmj
    obtain ⟨_, o, ho, hall⟩ := mem_ready.1 hj
    rw [ho] at hm
    cases hm
    exact getD_set_true (hall e he hb)
  · rw [getD_set_ne false hmj] at hl
    exact getD_set_true (h m om hm hl e he hb)
/-- Do all of E wait for i, or for what waits for it? -/
def waitsE (md : Region.Mode) (ops : Array Oper) (E : Nat → Bool) (i : Nat) : Bool :=
  (List.range ops.size).all fun j => !(E j) || (match ops[j]? with
    | some o => o.after.toList.any (fun e => Region.binds md e && (e.on == i || (match ops[e.on]? with | some m => m.after.toList.any (fun f => Region.binds md f && f.on == i) | none => false)))
    | none => true)
theorem waitsE_spec {i : Nat} (h : waitsE md ops E i = true) {j : Nat} {listed : Array Bool} (hc : Closed md ops listed) (hr : j ∈ Region.ready md ops listed) (hE : E j = true) : listed.getD i false = true := by
  obtain ⟨_, oj, hj, hall⟩ := mem_ready.1 hr
  unfold waitsE at h
  rw [List.all_eq_true] at h
  have h1 := h j (List.mem_range.2 (Array.getElem?_eq_some_iff.1 hj).1)
  rw [hE, hj] at h1
  simp only [Bool.not_true, Bool.false_or] at h1
  rw [List.any_eq_true] at h1
  obtain ⟨e, he, h2⟩ := h1
  rw [Bool.and_eq_true, Bool.or_eq_true, beq_iff_eq] at h2
  have h3 := hall e (Array.mem_toList_iff.1 he) h2.1
  rcases h2.2 with h4 | h4
  · rw [← h4]; exact h3
  · split at h4
    · rename_i m hm
      rw [List.any_eq_true] at h4
      obtain ⟨f, hf, h5⟩ := h4
      rw [Bool.and_eq_true, beq_iff_eq] at h5
      rw [← h5.2]
      exact hc _ m hm h3 f (Array.mem_toList_iff.1 hf) h5.1
    · cases h4
/-- The law of both takes: T is what the operation asks of the world: S gives it, or it asks nothing. -/
theorem wpAnyE_first {T : World → Prop} {Cl : Array Bool → Prop} {i : Nat} {oi : Oper} {v : Value} (hi : ops[i]? = some oi) (hsel : ∀ (j : Nat) (o : Oper) cs b, ops[j]? = some o → o.op ≠ .select cs b)
    (hQ : ∀ c a w, Q (.panic c) (a.put oi.dst v) w → Q (.panic c) a w)
    (hCl : ∀ listed j, Cl listed → j ∈ Region.ready md ops listed → Cl (listed.setIfInBounds j true))
    (hT : (∀ w, T w) ∨ (T = S ∧ ∀ j listed, Cl listed → j ∈ Region.ready md ops listed → E j = true → listed.getD i false = true)) :
    ∀ (fuel : Nat) (listed : Array Bool) (a : Act) (w : World), Cl listed →
      (∀ j oj, ops[j]? = some oj → j ≠ i → listed.getD j true = false → (∀ e ∈ oj.after, Region.binds md e = true → e.on ≠ i) → oi.apart ops oj = true) →
      i ∈ Region.ready md ops listed → YieldsIf P ops T oi v a → T w →
      wpAnyE P md ops Q S E fuel (listed.setIfInBounds i true) (a.put oi.dst v) w → wpAnyE P md ops Q S E (fuel + 1) listed a w := by
  intro fuel
  induction fuel with
  | zero =>
    intro listed a w _ _ hr hy hS H
    refine ⟨fun h => (by rw [h] at hr; cases hr), fun j hj => ?_⟩
    by_cases hji : j = i
    · subst hji; exact hy.wpOp hi hS ⟨fun _ h => h, H⟩
    · have := ready_mono hj hji
      rw [H.1] at this
      cases this
  | succ fuel ih =>
    intro listed a w hcl hfree hr hy hS H
    refine ⟨fun h => (by rw [h] at hr; cases hr), fun j hj => ?_⟩
    by_cases hji : j = i
    · subst hji; exact hy.wpOp hi hS ⟨fun _ h => h, H⟩
    · have h1 := H.2 j (ready_mono hj hji)
      obtain ⟨hjun, oj, hoj, hall⟩ := mem_ready.1 hj
      have hun : listed.getD i false = false := by
        have h0 := (mem_ready.1 hr).1
        rcases Nat.lt_or_ge i listed.size with h' | h'
        · simp [h'] at h0 ⊢; exact h0
        · simp [Array.getElem?_eq_none h']
      have hnot : ∀ e ∈ oj.after, Region.binds md e = true → e.on ≠ i := fun e he hb heq => by
        have h1 := hall e he hb
        rw [heq, hun] at h1
        cases h1
      have hK : ∀ w', (E j = false → S w → S w') → T w' := by
        intro w' hw'
        rcases hT with hT | ⟨rfl, hT⟩
        · exact hT w'
        · cases hEj : E j with
          | false => exact hw' hEj hS
          | true =>
            have := hT j listed hcl hj hEj
            rw [hun] at this
            cases this
      have h2 := wpOp_putIf hoj (hfree j oj hoj hji hjun hnot) (fun cs b => hsel i oi cs b hi) (fun cs b => hsel j oj cs b hoj) hQ hy h1
      have hfree' : ∀ k ok, ops[k]? = some ok → k ≠ i → (listed.setIfInBounds j true).getD k true = false →
          (∀ e ∈ ok.after, Region.binds md e = true → e.on ≠ i) → oi.apart ops ok = true := fun k ok hk hki hun hno => by
        refine hfree k ok hk hki ?_ hno
        by_cases hjk : j = k
        · subst hjk; exact hjun
        · rw [getD_set_ne true hjk] at hun; exact hun
      refine wpOp_mono (fun a' w' h3 => ⟨h3.2.1, ih (listed.setIfInBounds j true) a' w' (hCl _ _ hcl hj) hfree' (ready_mono hr (Ne.symm hji)) h3.1 (hK w' h3.2.1) ?_⟩) h2
      rw [Array.setIfInBounds_comm _ _ hji]
      exact h3.2.2
/-- A load is taken: all of E wait for it. -/
theorem wpAnyE_load {i : Nat} {oi : Oper} {v : Value} {fuel : Nat} {listed : Array Bool} {a : Act} {w : World} (hi : ops[i]? = some oi)
    (hs : Region.noSelect ops = true) (hf : Region.free md ops listed i = true) (hr : (Region.ready md ops listed).contains i = true) (hw : (waitsE md ops E i && closedB md ops listed) = true)
    (hQ : ∀ c a w, Q (.panic c) (a.put oi.dst v) w → Q (.panic c) a w) (hy : YieldsIf P ops S oi v a) (hS : S w)
    (h : wpAnyE P md ops Q S E fuel (listed.setIfInBounds i true) (a.put oi.dst v) w) : wpAnyE P md ops Q S E (fuel + 1) listed a w := by
  rw [Bool.and_eq_true] at hw
  exact wpAnyE_first (T := S) (Cl := Closed md ops) hi (Region.noSelect_spec hs) hQ (fun _ _ => Closed.set) (.inr ⟨rfl, fun j listed hc hj hE => waitsE_spec hw.1 hc hj hE⟩) fuel listed a w (closedB_spec hw.2) (Region.free_spec hi hf) (by simpa using hr) hy hS h
/-- What asks nothing of the world is taken. -/
theorem wpAnyE_take {i : Nat} {oi : Oper} {v : Value} {fuel : Nat} {listed : Array Bool} {a : Act} {w : World} (hi : ops[i]? = some oi)
    (hs : Region.noSelect ops = true) (hf : Region.free md ops listed i = true) (hr : (Region.ready md ops listed).contains i = true)
    (hQ : ∀ c a w, Q (.panic c) (a.put oi.dst v) w → Q (.panic c) a w) (hy : YieldsIf P ops (fun _ => True) oi v a)
    (h : wpAnyE P md ops Q S E fuel (listed.setIfInBounds i true) (a.put oi.dst v) w) : wpAnyE P md ops Q S E (fuel + 1) listed a w :=
  wpAnyE_first (T := fun _ => True) (Cl := fun _ => True) hi (Region.noSelect_spec hs) hQ (fun _ _ _ _ => trivial) (.inl fun _ => trivial) fuel listed a w trivial (Region.free_spec hi hf) (by simpa using hr) hy trivial h
/-- A call comes next, alone: S holds behind it. -/
theorem wpAnyE_call {i : Nat} {o : Oper} {fuel : Nat} {listed : Array Bool} {a : Act} {w : World} (hr : Region.ready md ops listed = [i]) (ho : ops[i]? = some o) (hw : Region.wanted o (yielded ops a.tmps) = true)
    (h : ∀ K' : Act → World → Prop, Shut (∀ a w, S w → (S w → wpAnyE P md ops Q S E fuel (listed.setIfInBounds i true) a w) → K' a w) → Oper.wp P o a w K' Q) :
    wpAnyE P md ops Q S E (fuel + 1) listed a w := by
  refine ⟨fun h0 => (by rw [hr] at h0; cases h0), fun j hj => ?_⟩
  rw [hr] at hj
  obtain rfl := List.mem_singleton.1 hj
  exact wpOp_step ho (fun K' hK => by rw [if_pos hw]; exact h K' (fun a w hS hW => hK a w ⟨fun _ _ => hS, hW hS⟩))
/-- A store comes next, alone. -/
theorem wpAnyE_store {i : Nat} {o : Oper} {fuel : Nat} {listed : Array Bool} {a : Act} {w : World} (hr : Region.ready md ops listed = [i]) (ho : ops[i]? = some o) (hE : E i = true) (hw : Region.wanted o (yielded ops a.tmps) = true)
    (h : ∀ K' : Act → World → Prop, Shut (∀ a w, wpAnyE P md ops Q S E fuel (listed.setIfInBounds i true) a w → K' a w) → Oper.wp P o a w K' Q) :
    wpAnyE P md ops Q S E (fuel + 1) listed a w := by
  refine ⟨fun h0 => (by rw [hr] at h0; cases h0), fun j hj => ?_⟩
  rw [hr] at hj
  obtain rfl := List.mem_singleton.1 hj
  exact wpOp_step ho (fun K' hK => by rw [if_pos hw]; exact h K' (fun a w hW => hK a w ⟨fun h => (by rw [hE] at h; cases h), hW⟩))
theorem wpAnyE_done {listed : Array Bool} {a : Act} {w : World} (hr : Region.ready md ops listed = []) (h : Q .normal a w) :
    ∀ fuel, wpAnyE P md ops Q S E fuel listed a w
  | 0 => ⟨hr, h⟩
  | _ + 1 => ⟨fun _ => h, by rw [hr]; simp⟩
/-- The beginning. -/
theorem wp_region_E (S : World → Prop) (E : Nat → Bool) {id : Nat} {a : Act} {w : World} (hm : P.follows .mixedOrders = true) (hS : S w.drew)
    (h : S w.drew → wpAnyE P .any ops Q S E ops.size (Array.replicate ops.size false) a w.drew) : (Code.region id ops true).wp P Q a w :=
  wp_region_any hm (wpAny_of_E _ _ _ _ (h hS))
end
end Go.Proofs.YtoblmhpjendbfaaGreatDoor.Rg
namespace Go.Proofs.YtoblmhpjendbfaaGreatDoor.Rg
set_option maxRecDepth 20000
open Go.RowKit Go.Shelf
set_option linter.unusedVariables false
set_option linter.unusedSimpArgs false

theorem below_only {O : Nat → Prop} {A B : World} {n : Nat} (h : Only O A B) (hn : n ≤ A.heap.size) (ho : ∀ k, O k → n ≤ k) : Below n A B :=
  ⟨h.os, h.tape, h.output, h.size, fun k hk => h.block k (by omega) (fun hO => by have := ho k hO; omega)⟩
theorem only_at (b k : Nat) (w : World) (u : Value) : Only (· = b) w (w.setCell ⟨b, k, none⟩ u) := Only.setCell (O := (· = b)) (p := ⟨b, k, none⟩) rfl w u
theorem only_below {b : Nat} {A B : World} (h : Below A.heap.size A B) : Only (· = b) A B := Only.of_all h _
/-- A queue in its block, which alone was turned. -/
structure QQ (w : World) (b : Nat) (W : World) (u v : Value) (s : SS) : Prop where
  q : Qb 121 W b u v s
  on : Only (· = b) w W
theorem QQ.go {w W W' : World} {b : Nat} {u v : Value} {s : SS} (h : QQ w b W u v s) (hb : Below W.heap.size W W') : QQ w b W' u v s := ⟨h.q.go hb, h.on.trans (only_below hb)⟩
theorem QQ.dr {w W : World} {b : Nat} {u v : Value} {s : SS} (h : QQ w b W u v s) : QQ w b W.drew u v s := h.go (Below.refl _ _).drew
theorem QQ.lt {w W : World} {b : Nat} {u v : Value} {s : SS} (h : QQ w b W u v s) : b < W.heap.size := h.q.lt
theorem QQ.sz {w W : World} {b : Nat} {u v : Value} {s : SS} (h : QQ w b W u v s) : w.heap.size ≤ W.heap.size := h.on.size
theorem QQ.s0 {w W : World} {b : Nat} {u v : Value} {s : SS} (h : QQ w b W u v s) (x : Int) : QQ w b (W.setCell ⟨b, 0, none⟩ (.int .u64 x)) u v { s with ba := x } := ⟨h.q.s0 x, h.on.trans (only_at b 0 W _)⟩
theorem QQ.s1 {w W : World} {b : Nat} {u v : Value} {s : SS} (h : QQ w b W u v s) (x : Int) : QQ w b (W.setCell ⟨b, 1, none⟩ (.int .u64 x)) u v { s with tp := x } := ⟨h.q.s1 x, h.on.trans (only_at b 1 W _)⟩
theorem QQ.s2 {w W : World} {b : Nat} {u v : Value} {s : SS} (h : QQ w b W u v s) (x : ByteArray) : QQ w b (W.setCell ⟨b, 2, none⟩ (.string x)) u v { s with d := x } := ⟨h.q.s2 x, h.on.trans (only_at b 2 W _)⟩
theorem QQ.s5 {w W : World} {b : Nat} {u v : Value} {s : SS} (h : QQ w b W u v s) (x : Bool) : QQ w b (W.setCell ⟨b, 5, none⟩ (.bool x)) u v { s with fin := x } := ⟨h.q.s5 x, h.on.trans (only_at b 5 W _)⟩
theorem QQ.s6 {w W : World} {b : Nat} {u v : Value} {s : SS} (h : QQ w b W u v s) (x : Bool) : QQ w b (W.setCell ⟨b, 6, none⟩ (.bool x)) u v { s with ft := x } := ⟨h.q.s6 x, h.on.trans (only_at b 6 W _)⟩
theorem QQ.s7 {w W : World} {b : Nat} {u v : Value} {s : SS} (h : QQ w b W u v s) (x : Bool) : QQ w b (W.setCell ⟨b, 7, none⟩ (.bool x)) u v { s with fa := x } := ⟨h.q.s7 x, h.on.trans (only_at b 7 W _)⟩
theorem QQ.s3 {w W : World} {b : Nat} {u v : Value} {s : SS} (h : QQ w b W u v s) {x : Value} {l : List Ran} (hr : Rd W x l) (ho : ¬ Blk x b) : QQ w b (W.setCell ⟨b, 3, none⟩ x) x v { s with ak := l } := ⟨h.q.s3 hr ho, h.on.trans (only_at b 3 W _)⟩
theorem QQ.s4 {w W : World} {b : Nat} {u v : Value} {s : SS} (h : QQ w b W u v s) {x : Value} {l : List Ran} (hr : Rd W x l) (ho : ¬ Blk x b) : QQ w b (W.setCell ⟨b, 4, none⟩ x) u x { s with td := l } := ⟨h.q.s4 hr ho, h.on.trans (only_at b 4 W _)⟩
set_option maxHeartbeats 4000000 in
theorem ofq_any (s : SS) (a1 : Option Addr) (n1 c1 : Nat) (a2 : Option Addr) (n2 c2 : Nat) (w : World) (hl1 : n1 ≤ 1000) (hl2 : n2 ≤ 1000) (ha : Rd w (.slice a1 n1 c1) s.ak) (ht : Rd w (.slice a2 n2 c2) s.td) :
    Calls Tryz.prog 70 #[.agg #[.int .u64 s.ba, .int .u64 s.tp, .string s.d, .slice a1 n1 c1, .slice a2 n2 c2, .bool s.fin, .bool s.ft, .bool s.fa]] w fun e w' => ∃ b1 d1 b2 d2 B, e = .returned (.pointer (some ⟨B, 0, none⟩)) ∧ w.heap.size ≤ B ∧ Qb 121 w' B (.slice b1 s.ak.length d1) (.slice b2 s.td.length d2) s ∧
      (∀ k, Blk (.slice b1 s.ak.length d1) k → w.heap.size ≤ k) ∧ (∀ k, Blk (.slice b2 s.td.length d2) k → w.heap.size ≤ k) ∧ Below w.heap.size w w' := by
  have hm1 := rd_len ha
  have hm2 := rd_len ht
  have CA := Lib.hid (fun W (h : Rd W (.slice a1 n1 c1) s.ak) => clone_sets a1 n1 c1 s.ak W hl1 h)
  have CT := Lib.hid (fun W (h : Rd W (.slice a2 n2 c2) s.td) => clone_sets a2 n2 c2 s.td W hl2 h)
  have HS0 := Lib.hid (qr_made w (.slice a1 n1 c1) (.slice a2 n2 c2) s ha ht)
  unfold Sets at CA CT
  rw [← hm1] at CA ⊢
  rw [← hm2] at CT ⊢
  clear ha ht hl1 hl2 hm1 hm2
  obtain ⟨ba, tp, d, ak, td, fin, ft, fa⟩ := s
  simp only at CA CT HS0 ⊢
  go_enter Tryz.func70, Tryz.ntmps70
  go_wp2_with fail
  refine wp_region_noPanic ?_
  refine wp_region_E (fun W : World => QR w W (.slice a1 n1 c1) (.slice a2 n2 c2) ⟨ba, tp, d, ak, td, fin, ft, fa⟩) (fun j => Nat.ble 6 j) (by kernel_rfl) ?_ (fun hHeld => ?_)
  · exact HS0.out.dr
  refine wpAnyE_take (i := 0) (v := ?_) rfl (by kernel_rfl) (by kernel_rfl) (by kernel_rfl) (fun _ _ _ h => h) (Or.inl ⟨by rfl, ?_⟩) ?_
  rotate_left
  · (intro w hSw; go_simp; (try with_reducible rfl))
  try simp only [Act.put, List.getElem_toArray, List.getElem_cons_zero, List.getElem_cons_succ, List.setIfInBounds_toArray, List.set_cons_zero, List.set_cons_succ]
  refine wpAnyE_load (i := 1) (v := ?_) rfl (by kernel_rfl) (by kernel_rfl) (by kernel_rfl) (by kernel_rfl) (fun _ _ _ h => h) (Or.inl ⟨by rfl, ?_⟩) (by assumption) ?_
  rotate_left
  · (intro w hSw; (have k0 := hSw.q.c0; have k1 := hSw.q.c1; have k2 := hSw.q.c2; have k3 := hSw.q.c3; have k4 := hSw.q.c4; have k5 := hSw.q.c5; have k6 := hSw.q.c6; have k7 := hSw.q.c7; simp only at k0 k1 k2 k5 k6 k7); go_simp; (try with_reducible rfl))
  try simp only [Act.put, List.getElem_toArray, List.getElem_cons_zero, List.getElem_cons_succ, List.setIfInBounds_toArray, List.set_cons_zero, List.set_cons_succ]
  refine wpAnyE_take (i := 3) (v := ?_) rfl (by kernel_rfl) (by kernel_rfl) (by kernel_rfl) (fun _ _ _ h => h) (Or.inl ⟨by rfl, ?_⟩) ?_
  rotate_left
  · (intro w hSw; go_simp; (try with_reducible rfl))
  try simp only [Act.put, List.getElem_toArray, List.getElem_cons_zero, List.getElem_cons_succ, List.setIfInBounds_toArray, List.set_cons_zero, List.set_cons_succ]
  refine wpAnyE_load (i := 4) (v := ?_) rfl (by kernel_rfl) (by kernel_rfl) (by kernel_rfl) (by kernel_rfl) (fun _ _ _ h => h) (Or.inl ⟨by rfl, ?_⟩) (by assumption) ?_
  rotate_left
  · (intro w hSw; (have k0 := hSw.q.c0; have k1 := hSw.q.c1; have k2 := hSw.q.c2; have k3 := hSw.q.c3; have k4 := hSw.q.c4; have k5 := hSw.q.c5; have k6 := hSw.q.c6; have k7 := hSw.q.c7; simp only at k0 k1 k2 k5 k6 k7); go_simp; (try with_reducible rfl))
  try simp only [Act.put, List.getElem_toArray, List.getElem_cons_zero, List.getElem_cons_succ, List.setIfInBounds_toArray, List.set_cons_zero, List.set_cons_succ]
  refine wpAnyE_call (i := 2) (by kernel_rfl) rfl (by rfl) (fun K hK => ?_)
  go_simp
  refine (CA.out _ HS0.out.dr.q.ra).mono ?_
  rintro e w1 ⟨b1, d1, rfl, hr, hk, hb⟩
  have HU := Lib.hid hr
  have KU := Lib.hid hk
  have HS1 := Lib.hid (HS0.out.dr.go hb)
  clear hr hk hb
  refine hK.out _ _ ?_ (fun hHeld => ?_)
  · exact HS1.out
  clear hK K
  try simp only [Act.put, List.getElem_toArray, List.getElem_cons_zero, List.getElem_cons_succ, List.setIfInBounds_toArray, List.set_cons_zero, List.set_cons_succ]
  refine wpAnyE_take (i := 6) (v := ?_) rfl (by kernel_rfl) (by kernel_rfl) (by kernel_rfl) (fun _ _ _ h => h) (Or.inl ⟨by rfl, ?_⟩) ?_
  rotate_left
  · (intro w hSw; go_simp; (try with_reducible rfl))
  try simp only [Act.put, List.getElem_toArray, List.getElem_cons_zero, List.getElem_cons_succ, List.setIfInBounds_toArray, List.set_cons_zero, List.set_cons_succ]
  refine wpAnyE_call (i := 5) (by kernel_rfl) rfl (by rfl) (fun K hK => ?_)
  go_simp
  refine (CT.out _ HS1.out.q.rt).mono ?_
  rintro e w2 ⟨b2, d2, rfl, hr, hk, hb⟩
  have HV := Lib.hid hr
  have KV := Lib.hid hk
  have HS2 := Lib.hid (HS1.out.go hb)
  replace HU := Lib.hid (HU.out.go hb)
  have HZ1 := Lib.hid HS1.out.q.lt
  clear hr hk hb
  have z0 := HS2.out.q.c0
  have z1 := HS2.out.q.c1
  have z2 := HS2.out.q.c2
  have z3 := HS2.out.q.c3
  have z4 := HS2.out.q.c4
  have z5 := HS2.out.q.c5
  have z6 := HS2.out.q.c6
  have z7 := HS2.out.q.c7
  simp only at z0 z1 z2 z5 z6 z7
  have zf := HS2.out.q.fz
  refine hK.out _ _ ?_ (fun hHeld => ?_)
  · exact HS2.out
  clear hK K
  try simp only [Act.put, List.getElem_toArray, List.getElem_cons_zero, List.getElem_cons_succ, List.setIfInBounds_toArray, List.set_cons_zero, List.set_cons_succ]
  refine wpAnyE_store (i := 7) (by kernel_rfl) rfl (by rfl) (by rfl) (fun K hK => ?_)
  go_simp
  refine hK.out _ _ ?_
  clear hK K
  try simp only [Act.put, List.getElem_toArray, List.getElem_cons_zero, List.getElem_cons_succ, List.setIfInBounds_toArray, List.set_cons_zero, List.set_cons_succ]
  refine wpAnyE_take (i := 8) (v := ?_) rfl (by kernel_rfl) (by kernel_rfl) (by kernel_rfl) (fun _ _ _ h => h) (Or.inl ⟨by rfl, ?_⟩) ?_
  rotate_left
  · (intro w hSw; go_simp; (try with_reducible rfl))
  try simp only [Act.put, List.getElem_toArray, List.getElem_cons_zero, List.getElem_cons_succ, List.setIfInBounds_toArray, List.set_cons_zero, List.set_cons_succ]
  refine wpAnyE_store (i := 9) (by kernel_rfl) rfl (by rfl) (by rfl) (fun K hK => ?_)
  go_simp
  refine hK.out _ _ ?_
  clear hK K
  try simp only [Act.put, List.getElem_toArray, List.getElem_cons_zero, List.getElem_cons_succ, List.setIfInBounds_toArray, List.set_cons_zero, List.set_cons_succ]
  refine wpAnyE_done (by kernel_rfl) (NoPanic.normal ?_) _
  have N1 : ¬ Blk (.slice b1 n1 d1) w.heap.size := fun h => by have := KU.out _ h; simp at this; omega
  have N2 : ¬ Blk (.slice b2 n2 d2) w.heap.size := fun h => by have := KV.out _ h; have := HZ1.out; omega
  have HF1 := HS2.out.q.s3 HU.out N1
  have HF2 := HF1.s4 (rd_set HV.out N2 _) N2
  have HF3 := Lib.hid (qb_made 121 _ _ _ _ HF2.ra HF2.rt)
  have HB := Lib.hid (Below.setCell (Below.setCell HS2.out.bl (p := ⟨w.heap.size, 3, none⟩) (Nat.le_refl _) (.slice b1 n1 d1)) (p := ⟨w.heap.size, 4, none⟩) (Nat.le_refl _) (.slice b2 n2 d2))
  have KU2 : Hid (∀ k, Blk (.slice b1 n1 d1) k → w.heap.size ≤ k) := Lib.hid (fun k hk => by have := KU.out k hk; simp at this; omega)
  have KV2 : Hid (∀ k, Blk (.slice b2 n2 d2) k → w.heap.size ≤ k) := Lib.hid (fun k hk => by have := KV.out k hk; have := HZ1.out; omega)
  clear N1 N2 HF1 HF2
  go_wp2_with fail
  go_ret
  exact ⟨b1, d1, b2, d2, _, rfl, by (try simp); have := HS2.out.bl.size; omega, (by have h := HF3.out; simp only [World.size_setCell] at h; exact h), KU2.out, KV2.out, HB.out.alloc (by simp; have := HS2.out.bl.size; omega) _⟩
set_option maxHeartbeats 4000000 in
theorem lay_any (b : Nat) (s : SS) (a1 : Option Addr) (n1 c1 : Nat) (a2 : Option Addr) (n2 c2 : Nat) (D : ByteArray) (w : World) (hs : SsOk s) (hd : en s + (D.size : Int) ≤ 1000000) (hl2 : n2 ≤ 200) (h : Qb 121 w b (.slice a1 n1 c1) (.slice a2 n2 c2) s) :
    Calls Tryz.prog 72 #[.pointer (some ⟨b, 0, none⟩), .string D] w fun e w' => e = .returned (.tuple #[]) ∧ ∃ b2 d2, QQ w b w' (.slice a1 n1 c1) (.slice b2 (layS s D).td.length d2) (layS s D) ∧ (∀ k, Blk (.slice b2 (layS s D).td.length d2) k → w.heap.size ≤ k) := by
  have hge := en_ge s
  have h0 := hs.b0
  have h1 := hs.b1
  have hen1 := en_lay s D
  have hgd := spn_good (a := en s) (b := en s + (D.size : Int)) (by omega) (by omega)
  have CE := Lib.hid (fun W => endq_any s (.slice a1 n1 c1) (.slice a2 n2 c2) W h0 h1)
  have HQ0 : Hid (QQ w b w (.slice a1 n1 c1) (.slice a2 n2 c2) s) := Lib.hid ⟨h, Only.refl _ _⟩
  have HTD : Hid (SsOk s) := Lib.hid hs
  obtain ⟨P1, P2, hP⟩ : ∃ P1 P2, spn (en s) (en s + (D.size : Int)) = (P1, P2) := ⟨_, _, rfl⟩
  obtain ⟨E, hE⟩ : ∃ x, en s = x := ⟨_, rfl⟩
  have hpl : plS ⟨s.ba, s.tp, s.d ++ D, s.ak, s.td, s.fin, s.ft, s.fa⟩ E (D.size : Int) = (P1, P2) := by
    rw [← hP, ← hE]
    unfold plS
    show spn (max (en s) s.ba) (min _ (en (layS s D))) = _
    rw [hen1, show max (en s) s.ba = en s by omega, show min (en s + max (D.size : Int) 0) (en s + (D.size : Int)) = en s + (D.size : Int) by omega]
  have CP := Lib.hid (fun W (k1 : Rd W (.slice a1 n1 c1) s.ak) (k2 : Rd W (.slice a2 n2 c2) s.td) => places_any ⟨s.ba, s.tp, s.d ++ D, s.ak, s.td, s.fin, s.ft, s.fa⟩ (.slice a1 n1 c1) (.slice a2 n2 c2) E (D.size : Int) P1 P2 W h0 (by show en (layS s D) ≤ _; omega) k1 k2 (by omega) (by omega) hpl)
  have CA := Lib.hid (fun W (k : Rd W (.slice a2 n2 c2) s.td) => add_sets a2 n2 c2 s.td P1 P2 W hl2 hs.ct (by rw [hP] at hgd; exact hgd.1) (by rw [hP] at hgd; exact hgd.2) k)
  unfold Sets at CA
  unfold layS
  rw [hP]
  rw [hE] at CE
  have hds : ¬ 9223372036854775807 < s.d.size + D.size := by unfold en at h1; unfold en at hd; omega
  clear hs hd hl2 hge h0 h1 hen1 hgd hpl hP hE h
  obtain ⟨ba, tp, d, ak, td, fin, ft, fa⟩ := s
  obtain ⟨R, hR⟩ : ∃ l, unL td (P1, P2) = l := ⟨_, rfl⟩
  simp only at CE HQ0 CP CA hds HTD ⊢
  rw [hR] at CA ⊢
  obtain ⟨rn, hrn⟩ : ∃ n, R.length = n := ⟨_, rfl⟩
  rw [hrn] at CA ⊢
  clear hR hrn
  have y0 := HQ0.out.q.c0
  have y1 := HQ0.out.q.c1
  have y2 := HQ0.out.q.c2
  have y3 := HQ0.out.q.c3
  have y4 := HQ0.out.q.c4
  have y5 := HQ0.out.q.c5
  have y6 := HQ0.out.q.c6
  have y7 := HQ0.out.q.c7
  simp only at y0 y1 y2 y5 y6 y7
  have yf := HQ0.out.q.fz
  go_enter Tryz.func72, Tryz.ntmps72
  go_wp2_with fail
  refine (CE.out _).mono ?_
  rintro e w1 ⟨rfl, hb⟩
  have HQ1 := Lib.hid (HQ0.out.go hb)
  clear hb y0 y1 y2 y3 y4 y5 y6 y7 yf
  have y0 := HQ1.out.q.c0
  have y1 := HQ1.out.q.c1
  have y2 := HQ1.out.q.c2
  have y3 := HQ1.out.q.c3
  have y4 := HQ1.out.q.c4
  have y5 := HQ1.out.q.c5
  have y6 := HQ1.out.q.c6
  have y7 := HQ1.out.q.c7
  simp only at y0 y1 y2 y5 y6 y7
  have yf := HQ1.out.q.fz
  have HQ2 := Lib.hid (HQ1.out.s2 (d ++ D))
  simp only at HQ2
  go_wp2_with fail
  clear y0 y1 y2 y3 y4 y5 y6 y7 yf
  generalize w1.setCell _ _ = W2 at *
  refine wp_region_noPanic ?_
  refine wp_region_E (fun W : World => QQ w b W (.slice a1 n1 c1) (.slice a2 n2 c2) ⟨ba, tp, d ++ D, ak, td, fin, ft, fa⟩) (fun j => Nat.ble 15 j) (by kernel_rfl) ?_ (fun hHeld => ?_)
  · exact HQ2.out.dr
  refine wpAnyE_take (i := 0) (v := ?_) rfl (by kernel_rfl) (by kernel_rfl) (by kernel_rfl) (fun _ _ _ h => h) (Or.inl ⟨by rfl, ?_⟩) ?_
  rotate_left
  · (intro w hSw; go_simp; (try with_reducible rfl))
  try simp only [Act.put, List.getElem_toArray, List.getElem_cons_zero, List.getElem_cons_succ, List.setIfInBounds_toArray, List.set_cons_zero, List.set_cons_succ]
  refine wpAnyE_take (i := 1) (v := ?_) rfl (by kernel_rfl) (by kernel_rfl) (by kernel_rfl) (fun _ _ _ h => h) (Or.inl ⟨by rfl, ?_⟩) ?_
  rotate_left
  · (intro w hSw; go_simp; (try with_reducible rfl))
  try simp only [Act.put, List.getElem_toArray, List.getElem_cons_zero, List.getElem_cons_succ, List.setIfInBounds_toArray, List.set_cons_zero, List.set_cons_succ]
  refine wpAnyE_take (i := 2) (v := ?_) rfl (by kernel_rfl) (by kernel_rfl) (by kernel_rfl) (fun _ _ _ h => h) (Or.inl ⟨by rfl, ?_⟩) ?_
  rotate_left
  · (intro w hSw; go_simp; (try with_reducible rfl))
  try simp only [Act.put, List.getElem_toArray, List.getElem_cons_zero, List.getElem_cons_succ, List.setIfInBounds_toArray, List.set_cons_zero, List.set_cons_succ]
  refine wpAnyE_take (i := 3) (v := ?_) rfl (by kernel_rfl) (by kernel_rfl) (by kernel_rfl) (fun _ _ _ h => h) (Or.inl ⟨by rfl, ?_⟩) ?_
  rotate_left
  · (intro w hSw; go_simp; (try with_reducible rfl))
  try simp only [Act.put, List.getElem_toArray, List.getElem_cons_zero, List.getElem_cons_succ, List.setIfInBounds_toArray, List.set_cons_zero, List.set_cons_succ]
  refine wpAnyE_take (i := 4) (v := ?_) rfl (by kernel_rfl) (by kernel_rfl) (by kernel_rfl) (fun _ _ _ h => h) (Or.inl ⟨by rfl, ?_⟩) ?_
  rotate_left
  · (intro w hSw; go_simp; (try with_reducible rfl))
  try simp only [Act.put, List.getElem_toArray, List.getElem_cons_zero, List.getElem_cons_succ, List.setIfInBounds_toArray, List.set_cons_zero, List.set_cons_succ]
  refine wpAnyE_load (i := 5) (v := ?_) rfl (by kernel_rfl) (by kernel_rfl) (by kernel_rfl) (by kernel_rfl) (fun _ _ _ h => h) (Or.inl ⟨by rfl, ?_⟩) (by assumption) ?_
  rotate_left
  · (intro w hSw; (have k0 := hSw.q.c0; have k1 := hSw.q.c1; have k2 := hSw.q.c2; have k3 := hSw.q.c3; have k4 := hSw.q.c4; have k5 := hSw.q.c5; have k6 := hSw.q.c6; have k7 := hSw.q.c7; simp only at k0 k1 k2 k5 k6 k7); go_simp; (try with_reducible rfl))
  try simp only [Act.put, List.getElem_toArray, List.getElem_cons_zero, List.getElem_cons_succ, List.setIfInBounds_toArray, List.set_cons_zero, List.set_cons_succ]
  refine wpAnyE_take (i := 6) (v := ?_) rfl (by kernel_rfl) (by kernel_rfl) (by kernel_rfl) (fun _ _ _ h => h) (Or.inl ⟨by rfl, ?_⟩) ?_
  rotate_left
  · (intro w hSw; go_simp; (try with_reducible rfl))
  try simp only [Act.put, List.getElem_toArray, List.getElem_cons_zero, List.getElem_cons_succ, List.setIfInBounds_toArray, List.set_cons_zero, List.set_cons_succ]
  refine wpAnyE_take (i := 7) (v := ?_) rfl (by kernel_rfl) (by kernel_rfl) (by kernel_rfl) (fun _ _ _ h => h) (Or.inl ⟨by rfl, ?_⟩) ?_
  rotate_left
  · (intro w hSw; go_simp; (try with_reducible rfl))
  try simp only [Act.put, List.getElem_toArray, List.getElem_cons_zero, List.getElem_cons_succ, List.setIfInBounds_toArray, List.set_cons_zero, List.set_cons_succ]
  refine wpAnyE_take (i := 8) (v := ?_) rfl (by kernel_rfl) (by kernel_rfl) (by kernel_rfl) (fun _ _ _ h => h) (Or.inl ⟨by rfl, ?_⟩) ?_
  rotate_left
  · (intro w hSw; go_simp; (try with_reducible rfl))
  try simp only [Act.put, List.getElem_toArray, List.getElem_cons_zero, List.getElem_cons_succ, List.setIfInBounds_toArray, List.set_cons_zero, List.set_cons_succ]
  refine wpAnyE_load (i := 9) (v := ?_) rfl (by kernel_rfl) (by kernel_rfl) (by kernel_rfl) (by kernel_rfl) (fun _ _ _ h => h) (Or.inl ⟨by rfl, ?_⟩) (by assumption) ?_
  rotate_left
  · (intro w hSw; (have k0 := hSw.q.c0; have k1 := hSw.q.c1; have k2 := hSw.q.c2; have k3 := hSw.q.c3; have k4 := hSw.q.c4; have k5 := hSw.q.c5; have k6 := hSw.q.c6; have k7 := hSw.q.c7; simp only at k0 k1 k2 k5 k6 k7); go_simp; (try with_reducible rfl))
  try simp only [Act.put, List.getElem_toArray, List.getElem_cons_zero, List.getElem_cons_succ, List.setIfInBounds_toArray, List.set_cons_zero, List.set_cons_succ]
  refine wpAnyE_take (i := 10) (v := ?_) rfl (by kernel_rfl) (by kernel_rfl) (by kernel_rfl) (fun _ _ _ h => h) (Or.inl ⟨by rfl, ?_⟩) ?_
  rotate_left
  · (intro w hSw; go_simp; (try with_reducible rfl))
  try simp only [Act.put, List.getElem_toArray, List.getElem_cons_zero, List.getElem_cons_succ, List.setIfInBounds_toArray, List.set_cons_zero, List.set_cons_succ]
  refine wpAnyE_take (i := 11) (v := ?_) rfl (by kernel_rfl) (by kernel_rfl) (by kernel_rfl) (fun _ _ _ h => h) (Or.inl ⟨by rfl, ?_⟩) ?_
  rotate_left
  · (intro w hSw; go_simp; (try with_reducible rfl))
  try simp only [Act.put, List.getElem_toArray, List.getElem_cons_zero, List.getElem_cons_succ, List.setIfInBounds_toArray, List.set_cons_zero, List.set_cons_succ]
  refine wpAnyE_take (i := 12) (v := ?_) rfl (by kernel_rfl) (by kernel_rfl) (by kernel_rfl) (fun _ _ _ h => h) (Or.inl ⟨by rfl, ?_⟩) ?_
  rotate_left
  · (intro w hSw; go_simp; (try with_reducible rfl))
  try simp only [Act.put, List.getElem_toArray, List.getElem_cons_zero, List.getElem_cons_succ, List.setIfInBounds_toArray, List.set_cons_zero, List.set_cons_succ]
  refine wpAnyE_call (i := 13) (by kernel_rfl) rfl (by rfl) (fun K hK => ?_)
  go_simp
  refine (CP.out _ HQ2.out.dr.q.ra HQ2.out.dr.q.rt).mono ?_
  rintro e w2 ⟨rfl, hb⟩
  have HQ3 := Lib.hid (HQ2.out.dr.go hb)
  clear hb
  refine hK.out _ _ ?_ (fun hHeld => ?_)
  · exact HQ3.out
  clear hK K
  try simp only [Act.put, List.getElem_toArray, List.getElem_cons_zero, List.getElem_cons_succ, List.setIfInBounds_toArray, List.set_cons_zero, List.set_cons_succ]
  refine wpAnyE_call (i := 14) (by kernel_rfl) rfl (by rfl) (fun K hK => ?_)
  go_simp
  refine (CA.out _ HQ3.out.q.rt).mono ?_
  rintro e w3 ⟨b2, d2, rfl, hr, hk, hb⟩
  have HV := Lib.hid hr
  have KV := Lib.hid hk
  have HQ4 := Lib.hid (HQ3.out.go hb)
  clear hr hk hb
  have z0 := HQ4.out.q.c0
  have z1 := HQ4.out.q.c1
  have z2 := HQ4.out.q.c2
  have z3 := HQ4.out.q.c3
  have z4 := HQ4.out.q.c4
  have z5 := HQ4.out.q.c5
  have z6 := HQ4.out.q.c6
  have z7 := HQ4.out.q.c7
  simp only at z0 z1 z2 z5 z6 z7
  have zf := HQ4.out.q.fz
  refine hK.out _ _ ?_ (fun hHeld => ?_)
  · exact HQ4.out
  clear hK K
  try simp only [Act.put, List.getElem_toArray, List.getElem_cons_zero, List.getElem_cons_succ, List.setIfInBounds_toArray, List.set_cons_zero, List.set_cons_succ]
  refine wpAnyE_take (i := 15) (v := ?_) rfl (by kernel_rfl) (by kernel_rfl) (by kernel_rfl) (fun _ _ _ h => h) (Or.inl ⟨by rfl, ?_⟩) ?_
  rotate_left
  · (intro w hSw; go_simp; (try with_reducible rfl))
  try simp only [Act.put, List.getElem_toArray, List.getElem_cons_zero, List.getElem_cons_succ, List.setIfInBounds_toArray, List.set_cons_zero, List.set_cons_succ]
  refine wpAnyE_take (i := 16) (v := ?_) rfl (by kernel_rfl) (by kernel_rfl) (by kernel_rfl) (fun _ _ _ h => h) (Or.inl ⟨by rfl, ?_⟩) ?_
  rotate_left
  · (intro w hSw; go_simp; (try with_reducible rfl))
  try simp only [Act.put, List.getElem_toArray, List.getElem_cons_zero, List.getElem_cons_succ, List.setIfInBounds_toArray, List.set_cons_zero, List.set_cons_succ]
  refine wpAnyE_take (i := 17) (v := ?_) rfl (by kernel_rfl) (by kernel_rfl) (by kernel_rfl) (fun _ _ _ h => h) (Or.inl ⟨by rfl, ?_⟩) ?_
  rotate_left
  · (intro w hSw; go_simp; (try with_reducible rfl))
  try simp only [Act.put, List.getElem_toArray, List.getElem_cons_zero, List.getElem_cons_succ, List.setIfInBounds_toArray, List.set_cons_zero, List.set_cons_succ]
  refine wpAnyE_store (i := 18) (by kernel_rfl) rfl (by rfl) (by rfl) (fun K hK => ?_)
  go_simp
  refine hK.out _ _ ?_
  clear hK K
  try simp only [Act.put, List.getElem_toArray, List.getElem_cons_zero, List.getElem_cons_succ, List.setIfInBounds_toArray, List.set_cons_zero, List.set_cons_succ]
  refine wpAnyE_done (by kernel_rfl) (NoPanic.normal ?_) _
  have N2 : ¬ Blk (.slice b2 rn d2) b := fun hk => by have := KV.out _ hk; have := HQ3.out.lt; omega
  have HF := Lib.hid (HQ4.out.s4 HV.out N2)
  have KV2 : Hid (∀ k, Blk (.slice b2 rn d2) k → w.heap.size ≤ k) := Lib.hid (fun k hk => by have := KV.out k hk; have := HQ3.out.sz; omega)
  clear N2
  go_wp2_with fail
  go_end0
  exact ⟨rfl, b2, d2, HF.out, KV2.out⟩
end Go.Proofs.YtoblmhpjendbfaaGreatDoor.Rg
