/- The walks of layer 5: Get, the program's. -/
import Derived.Test.YthhcpedaldlccaaDoorPmI
import Derived.Test.YthhcpedaldlccaaDoorPmH
import Derived.Maps.OwnIn
import Derived.Maps.Views
import Derived.Shelf.RegionOpen
import Derived.OwnWalkIn
namespace Go.Proofs.YthhcpedaldlccaaDoor.Pm
open Go.RowKit Vm It Go.Maps
set_option linter.unusedVariables false
set_option linter.unusedSimpArgs false

/-- The numbers that came, as a map. -/
def cameD : List Nat → DataW Unit
  | [] => .map []
  | n :: cs => (cameD cs).put (.int .u64 (n : Nat)) (.lit (.int .i64 1))
theorem cameD_isMap : ∀ cs, IsMap (cameD cs)
  | [] => isMap_empty
  | n :: cs => (cameD_isMap cs).put _ _
theorem cameD_at (n : Nat) : ∀ cs, (cameD cs).atKey (.int .u64 (n : Nat)) (.lit (.int .i64 0)) = .lit (.int .i64 (if n ∈ cs then 1 else 0))
  | [] => rfl
  | m :: cs => by
    by_cases h : n = m
    · subst h
      have hk : WideAt.IsKeyLit (.int .u64 (n : Nat)) := trivial
      rw [cameD, atKey_put_same (cameD_isMap cs) hk, if_pos (List.mem_cons_self ..)]
    · rw [cameD, atKey_put_other (fun e => h (by simp only [Lit.int.injEq, true_and] at e; omega)), cameD_at n cs]
      simp [h]
theorem kLaw : Keyed Tryd.prog 22 := int_keyed Tryd.underlying22
theorem zInt (w : World) : (zeroValue 3).run Tryd.prog w = .ok (.int .i64 0) w := by kernel_rfl
theorem wf64 {n : Nat} (h : n < 4611686018427387904) : (Lit.int .u64 (n : Nat)).wf = true :=
  WalkArith.wf_u64 (by omega)
abbrev Own (A : World) (M n : Nat) (cs : List Nat) : Prop := A.ownsMap Tryd.prog 22 (plainElem Tryd.prog 3) M n (cameD cs)
theorem own_look {A : World} {M k : Nat} {cs : List Nat} (h : Own A M k cs) {n : Nat} (hn : n < 4611686018427387904) :
    (Instr.lookup 58 (.map (some M)) (.int .u64 (n : Nat)) false).run Tryd.prog A = .ok (.int .i64 (if n ∈ cs then 1 else 0)) A := by
  obtain ⟨c, hrun, hat, _⟩ := h.lookup_int kLaw Tryd.underlying58 Tryd.underlying3 (zInt _) (keyOf_int_mk Tryd.underlying22 (wf64 hn))
  rw [cameD_at] at hat
  rw [hrun]
  simp only [DataW.lit.injEq, Lit.int.injEq, true_and] at hat
  rw [hat]
theorem own_put {A : World} {M k : Nat} {cs : List Nat} (h : Own A M k cs) {n : Nat} (hn : n < 4611686018427387904) (hk : k ≤ 10000) :
    ∃ A', (Instr.mapUpdate 58 (.map (some M)) (.int .u64 (n : Nat)) (.int .i64 1)).run Tryd.prog A = .ok () A' ∧ Own A' M (k + 1) (n :: cs) ∧ A.grownBy A' (some M) :=
  h.update kLaw Tryd.underlying58 (by unfold maxLen; omega) (keyOf_int_mk Tryd.underlying22 (wf64 hn)) (plainElem_int Tryd.underlying3 (by decide))
theorem own_only {A B : World} {M k : Nat} {cs : List Nat} (h : Own A M k cs) {O : Nat → Prop} (ho : Only O A B) (hn : ¬ O M) : Own B M k cs := by
  obtain ⟨es, clock, hb, r⟩ := h
  exact ⟨es, clock, ho.heap hb hn, r⟩
theorem pbk_only {A B : World} {P : Nat} {p : Prm} (h : PBk P p A) {O : Nat → Prop} (ho : Only O A B) (hn : ¬ O P) : PBk P p B := by
  unfold PBk at *
  exact ho.heap h hn

theorem prs_len : ∀ (k : Nat) (l : List UInt8), (prs k l).length ≤ k
  | 0, l => Nat.le_refl _
  | k + 1, l => by
    simp only [prs]
    split
    · simp
    · split
      · rename_i n v r h; have := prs_len k r; simp; omega
      · simp
/-- The cells of parameters. -/
abbrev pCells (p : Prm) : Array Value := #[.int .u64 p.idle, .int .u64 p.size, .int .u64 p.data, .int .u64 p.bl, .int .u64 p.br, .int .u64 p.uni, .int .u64 p.bidis, .int .u64 p.unis, .int .u64 p.expo, .int .u64 p.delay, .int .u64 p.ids, .string ⟨p.tok.toArray⟩]
/-- Between two rounds of Get's loop. N: the results' blocks, P: the parameters, P + 1: the map, P + 2: where it lies. -/
structure GetI (w : World) (P : Nat) (pre : List (Option (Nat × List UInt8))) (O : Nat → Prop) (A : World) : Prop where
  st : ∃ p cs, goG pre = some (p, cs) ∧ PBk P p A ∧ Own A (P + 1) pre.length cs ∧ Wf p
  at_ : A.heap[P + 2]? = some (.cells #[.map (some (P + 1))] 58 (0, 0))
  r0 : PBk w.heap.size zeroP A
  r1 : A.heap[w.heap.size + 1]? = some (.cells #[.int .i64 0] 27 (0, 0))
  ge : ∀ q, O q → P + 4 ≤ q
  sz : P + 4 ≤ A.heap.size
  bl : Below w.heap.size w A
structure GetX (w : World) (P : Nat) (c : Code) (pre : List (Option (Nat × List UInt8))) (O : Nat → Prop) (A : World) : Prop where
  ret : c = .ret
  st : goG pre = none
  r0 : PBk w.heap.size zeroP A
  r1 : A.heap[w.heap.size + 1]? = some (.cells #[.int .i64 50] 27 (0, 0))
  ge : ∀ q, O q → P + 4 ≤ q
  sz : P + 4 ≤ A.heap.size
  bl : Below w.heap.size w A
theorem grow_ge {O O' : Nat → Prop} {A B : World} {N : Nat} (h : ∀ q, O q → N ≤ q) (hA : N ≤ A.heap.size) (h2 : ∀ k, O' k → O k ∨ (A.heap.size ≤ k ∧ k < B.heap.size)) : ∀ q, O' q → N ≤ q :=
  fun q hq => (h2 q hq).elim (h q) (fun h' => Nat.le_trans hA h'.1)
theorem getI_stable (w : World) (P : Nat) (hP : w.heap.size + 2 ≤ P) : Stable (GetI w P) := by
  rintro pre O O' A B ⟨⟨p, cs, h1, h2, h3, h4⟩, h5, h6, h7, h8, h9, h10⟩ ho g2
  have hn : ∀ q, q < P + 4 → ¬ O q := fun q hq h => by have := h8 q h; omega
  exact ⟨⟨p, cs, h1, pbk_only h2 ho (hn _ (by omega)), own_only h3 ho (hn _ (by omega)), h4⟩, ho.heap h5 (hn _ (by omega)), pbk_only h6 ho (hn _ (by omega)), ho.heap h7 (hn _ (by omega)), grow_ge h8 h9 g2, Nat.le_trans h9 ho.size, h10.trans (ho.below (by have := h10.size; omega) (fun k hk => by have := h8 k hk; omega))⟩
theorem getX_stable (w : World) (P : Nat) (hP : w.heap.size + 2 ≤ P) (c : Code) : Stable (GetX w P c) := by
  rintro pre O O' A B ⟨h1, h2, h6, h7, h8, h9, h10⟩ ho g2
  have hn : ∀ q, q < P + 4 → ¬ O q := fun q hq h => by have := h8 q h; omega
  exact ⟨h1, h2, pbk_only h6 ho (hn _ (by omega)), ho.heap h7 (hn _ (by omega)), grow_ge h8 h9 g2, Nat.le_trans h9 ho.size, h10.trans (ho.below (by have := h10.size; omega) (fun k hk => by have := h8 k hk; omega))⟩
/-- The results' blocks, with parameters and an error stored. -/
def stW (N : Nat) (q : Prm) (e : Int) (W : World) : World :=
  (((((((((((((W.setCell ⟨N, 0, none⟩ (.int .u64 q.idle)).setCell ⟨N, 1, none⟩ (.int .u64 q.size)).setCell ⟨N, 2, none⟩ (.int .u64 q.data)).setCell ⟨N, 3, none⟩ (.int .u64 q.bl)).setCell ⟨N, 4, none⟩ (.int .u64 q.br)).setCell ⟨N, 5, none⟩ (.int .u64 q.uni)).setCell ⟨N, 6, none⟩ (.int .u64 q.bidis)).setCell ⟨N, 7, none⟩ (.int .u64 q.unis)).setCell ⟨N, 8, none⟩ (.int .u64 q.expo)).setCell ⟨N, 9, none⟩ (.int .u64 q.delay)).setCell ⟨N, 10, none⟩ (.int .u64 q.ids)).setCell ⟨N, 11, none⟩ (.string ⟨q.tok.toArray⟩)).setCell ⟨N + 1, 0, none⟩ (.int .i64 e))
theorem stW_only (N : Nat) (q : Prm) (e : Int) (W : World) {O : Nat → Prop} (h : O N) (h1 : O (N + 1)) : Only O W (stW N q e W) := by
  unfold stW
  refine Only.trans ?_ (Only.setCell h1 _ _)
  iterate 12 (refine Only.trans ?_ (Only.setCell h _ _))
  exact Only.refl _ _
theorem stW_pbk {N : Nat} {p : Prm} {W : World} (h : PBk N p W) (q : Prm) (e : Int) : PBk N q (stW N q e W) := by
  have h12 := (((((((((((h.set0 q.idle).set1 q.size).set2 q.data).set3 q.bl).set4 q.br).set5 q.uni).set6 q.bidis).set7 q.unis).set8 q.expo).set9 q.delay).set10 q.ids).set11 q.tok
  unfold stW
  exact pbk_only h12 (Only.setCell (O := fun k => k = N + 1) (p := ⟨N + 1, 0, none⟩) rfl _ _) (by omega)
theorem set_one {A : World} {B : Nat} {u : Value} {t : TypeId} (h : A.heap[B]? = some (.cells #[u] t (0, 0))) (v : Value) : (A.setCell ⟨B, 0, none⟩ v).heap[B]? = some (.cells #[v] t (0, 0)) := by
  have := Joins.block_setCell (i := 0) h v
  exact this
theorem stW_err {N : Nat} {W : World} {u : Value} (h : W.heap[N + 1]? = some (.cells #[u] 27 (0, 0))) (q : Prm) (e : Int) : (stW N q e W).heap[N + 1]? = some (.cells #[.int .i64 e] 27 (0, 0)) := by
  have h12 : ∀ W', Only (fun k => k = N) W W' → W'.heap[N + 1]? = some (.cells #[u] 27 (0, 0)) := fun W' ho => ho.heap h (by omega)
  unfold stW
  refine set_one (h12 _ ?_) _
  iterate 12 (refine Only.trans ?_ (Only.setCell (O := fun k => k = N) rfl _ _))
  exact Only.refl _ _
/-- The results, read behind the deferred list. -/
theorem get_end {N D : Nat} {q : Prm} {e : Int} {W : World} (h0 : PBk N q W) (h1 : W.heap[N + 1]? = some (.cells #[.int .i64 e] 27 (0, 0))) (hD : N + 1 < D) :
    PBk N q (W.putObj D (.deferred none)) ∧ (W.putObj D (.deferred none)).heap[N + 1]? = some (.cells #[.int .i64 e] 27 (0, 0)) := by
  refine ⟨?_, ?_⟩
  · unfold PBk at *
    exact (World.putObj_heap_other (by omega)).trans h0
  · exact (World.putObj_heap_other (by omega)).trans h1
theorem getP_yes {l : List UInt8} {p : Prm} (h : getO l = some p) : getP l = p := by unfold getP; rw [h]; rfl
theorem getE_yes {l : List UInt8} {p : Prm} (h : getO l = some p) : getE l = 0 := by unfold getE; rw [h]
theorem getP_no {l : List UInt8} (h : getO l = none) : getP l = zeroP := by unfold getP; rw [h]; rfl
theorem getE_no {l : List UInt8} (h : getO l = none) : getE l = 50 := by unfold getE; rw [h]
theorem one_cell {A : World} {B : Nat} {u : Value} {t : TypeId} (h : A.heap[B]? = some (.cells #[u] t (0, 0))) : A.cell? ⟨B, 0, none⟩ = some u ∧ A.frozen? ⟨B, 0, none⟩ = false := by
  simp [World.cell?, World.frozen?, h]
theorem zcells {b : Nat} {W : World} (h : PBk b zeroP W) : W.cell? ⟨b, 0, none⟩ = some (.int .u64 0) ∧ W.cell? ⟨b, 1, none⟩ = some (.int .u64 0) ∧ W.cell? ⟨b, 2, none⟩ = some (.int .u64 0) ∧ W.cell? ⟨b, 3, none⟩ = some (.int .u64 0) ∧ W.cell? ⟨b, 4, none⟩ = some (.int .u64 0) ∧ W.cell? ⟨b, 5, none⟩ = some (.int .u64 0) ∧ W.cell? ⟨b, 6, none⟩ = some (.int .u64 0) ∧ W.cell? ⟨b, 7, none⟩ = some (.int .u64 0) ∧ W.cell? ⟨b, 8, none⟩ = some (.int .u64 0) ∧ W.cell? ⟨b, 9, none⟩ = some (.int .u64 0) ∧ W.cell? ⟨b, 10, none⟩ = some (.int .u64 0) ∧ W.cell? ⟨b, 11, none⟩ = some (.string ⟨#[]⟩) := ⟨h.cell0, h.cell1, h.cell2, h.cell3, h.cell4, h.cell5, h.cell6, h.cell7, h.cell8, h.cell9, h.cell10, h.cell11⟩
attribute [local go_sem] Oper.semAt_some
set_option maxHeartbeats 4000000 in
theorem get_any (l : List UInt8) (w : World) (hl : l.length ≤ 4000) (ht : Tab w) (hL : Lim w) : Calls Tryd.prog 11 #[.string ⟨l.toArray⟩] w fun e w' => e = .returned (.tuple #[pv (getP l), .int .i64 (getE l)]) ∧ Below w.heap.size w w' := by
  refine (callsIn_wide (n := 0)).1 ?_
  have hlt := ht.lt
  have hltL := hL.1
  have HT := Lib.hid ht
  have HL := Lib.hid hL
  clear ht hL
  have hmm := @run_makeMap Tryd.prog
  refine callsIn_of_wp_marks Tryd.func11 rfl trivial ?_ rfl
  simp only [Tryd.ntmps11, List.size_toArray, List.length_cons, List.length_nil, Nat.reduceAdd, Nat.reduceSub, Array.replicate_succ, Array.replicate_zero, List.push_toArray, List.append_toArray, List.nil_append, List.cons_append]
  gi_wp2_with fail
  refine ⟨trivial, rfl, (callsIn_wide.2 (default_any _)).mono ?_⟩
  rintro e w1 ⟨rfl, hb1⟩
  gi_wp2_with fail
  refine ⟨trivial, rfl, (callsIn_wide.2 (pairs_any l _)).mono ?_⟩
  rintro e w2 ⟨rfl, rfl⟩
  have hs1 : w.heap.size + 2 ≤ w1.heap.size := by have := hb1.size; simpa using this
  have hz0 : Hid (PBk w.heap.size zeroP w1) := Lib.hid ((((PBk.made w zeroP : PBk w.heap.size zeroP (w.alloc (.cells #[.int .u64 0, .int .u64 0, .int .u64 0, .int .u64 0, .int .u64 0, .int .u64 0, .int .u64 0, .int .u64 0, .int .u64 0, .int .u64 0, .int .u64 0, .string ⟨#[]⟩] 24))).keep ((Below.refl _ _).alloc (Nat.le_refl _) _)).keep hb1))
  have hz1 : Hid (w1.heap[w.heap.size + 1]? = some (.cells #[.int .i64 0] 27 (0, 0))) := Lib.hid ((hb1.block (w.heap.size + 1) (by simp)).trans (by have := World.alloc_heap_new (w.alloc (.cells #[.int .u64 0, .int .u64 0, .int .u64 0, .int .u64 0, .int .u64 0, .int .u64 0, .int .u64 0, .int .u64 0, .int .u64 0, .int .u64 0, .int .u64 0, .string ⟨#[]⟩] 24)) (.cells #[.int .i64 0] 27); rwa [World.size_alloc] at this))
  have HB1 : Hid (Below w.heap.size w w1) := Lib.hid ((((Below.refl w.heap.size w).alloc (Nat.le_refl _) _).alloc (by simp) _).trans (hb1.mono (by simp; (try omega))))
  clear hb1
  obtain ⟨W4, hW4⟩ : ∃ W4, (((w1.alloc (.cells #[.int .u64 0, .int .u64 65527, .int .u64 0, .int .u64 0, .int .u64 0, .int .u64 0, .int .u64 0, .int .u64 0, .int .u64 3, .int .u64 25, .int .u64 2, .string ⟨#[]⟩] 24)).alloc (.map #[] 0)).alloc (.cells #[.map (some (w1.heap.size + 1))] 58)).alloc (.cells #[.string ⟨l.toArray⟩] 9) = W4 := ⟨_, rfl⟩
  have hsz4 : W4.heap.size = w1.heap.size + 4 := by rw [← hW4]; simp
  have HB14 : Hid (Below w1.heap.size w1 W4) := Lib.hid (by rw [← hW4]; exact ((((Below.refl w1.heap.size w1).alloc (Nat.le_refl _) _).alloc (by simp) _).alloc (by simp; (try omega)) _).alloc (by simp; (try omega)) _)
  have HB4 : Hid (Below w.heap.size w W4) := Lib.hid (HB1.out.trans (HB14.out.mono (by omega)))
  have hBs : W4.cell? ⟨w1.heap.size + 3, 0, none⟩ = some (.string ⟨l.toArray⟩) := by rw [← hW4]; simp [go_sem]
  have HI0 : Hid (GetI w w1.heap.size [] (fun _ => False) W4) := Lib.hid (by
    refine ⟨⟨usual, [], rfl, ?_, ?_, usual_wf⟩, ?_, hz0.out.keep HB14.out, (HB14.out.block _ (by omega)).trans hz1.out, fun _ h => h.elim, by omega, HB4.out⟩
    · rw [← hW4]
      exact (PBk.made w1 usual : PBk w1.heap.size usual (w1.alloc (.cells #[.int .u64 0, .int .u64 65527, .int .u64 0, .int .u64 0, .int .u64 0, .int .u64 0, .int .u64 0, .int .u64 0, .int .u64 3, .int .u64 25, .int .u64 2, .string ⟨#[]⟩] 24))).keep ((((Below.refl _ _).alloc (Nat.le_refl _) _).alloc (by simp) _).alloc (by simp; (try omega)) _)
    · rw [← hW4]
      have := World.ownsMap_made (H := Unit) (w1.alloc (.cells #[.int .u64 0, .int .u64 65527, .int .u64 0, .int .u64 0, .int .u64 0, .int .u64 0, .int .u64 0, .int .u64 0, .int .u64 3, .int .u64 25, .int .u64 2, .string ⟨#[]⟩] 24)) Tryd.prog 22 (plainElem Tryd.prog 3)
      rw [World.size_alloc] at this
      exact (this.alloc _).alloc _
    · rw [← hW4, Below.heap_alloc _ _ _ (by simp)]
      have := World.alloc_heap_new ((w1.alloc (.cells #[.int .u64 0, .int .u64 65527, .int .u64 0, .int .u64 0, .int .u64 0, .int .u64 0, .int .u64 0, .int .u64 0, .int .u64 3, .int .u64 25, .int .u64 2, .string ⟨#[]⟩] 24)).alloc (.map #[] 0)) (.cells #[.map (some (w1.heap.size + 1))] 58)
      rwa [World.size_alloc, World.size_alloc] at this)
  have hit := pairs_iter (w1.heap.size + 1 + 1 + 1) l W4 hl (HT.out.below HB4.out hlt) hBs
  clear hz0 hz1 HB14 hBs
  gi_wp2_with fail
  clear hW4
  refine wp_range rfl (enters_of Tryd.func35 (by kernel_rfl) rfl) hit (fun q hq => ⟨?_, rfl⟩) (Nat.le_refl _) (fun x => by cases x <;> rfl) (GetI w w1.heap.size) (GetX w w1.heap.size) (getI_stable w _ hs1) (getX_stable w _ hs1) HI0.out ?round ?done ?stop
  case round =>
    rintro lq pre x O A hpx hw hOl hi
    have HPX := Lib.hid hpx
    have HW := Lib.hid hw
    have HI := Lib.hid hi
    have hAs := hi.sz
    have hOl2 := hi.ge _ hOl
    have HTA := Lib.hid (HT.out.below hi.bl hlt)
    clear hpx hw hi hOl hit HI0
    rcases x with _ | ⟨n, v⟩
    · simp only [encP]
      gi_wp2_with fail
      refine ⟨Only.alloc _ _ _, ?_⟩
      intro A2 ho2 hsz2
      rw [World.size_alloc] at hsz2
      have HI2 := Lib.hid (getI_stable w _ hs1 pre O O A A2 HI.out ((Only.alloc O A _).trans ho2) (fun _ h => .inl h))
      have HG : Hid (goG (pre ++ [none]) = none) := Lib.hid (by rw [goG_snoc]; cases goG pre <;> rfl)
      clear ho2 HI
      have HN0 := Lib.hid HI2.out.r0
      obtain ⟨k0, k1⟩ := one_cell HI2.out.r1
      obtain ⟨z0, z1, z2, z3, z4, z5, z6, z7, z8, z9, z10, z11⟩ := zcells HN0.out
      have f0 := HN0.out.fz
      gi_wp2_with fail
      refine ⟨trivial, ?_⟩
      gi_wp2_with fail
      have hOn : ¬ O w.heap.size ∧ ¬ O (w.heap.size + 1) := ⟨fun h => by have := HI2.out.ge _ h; omega, fun h => by have := HI2.out.ge _ h; omega⟩
      have hlv : 1 < w.heap.size := hlt
      refine ⟨stW_only w.heap.size zeroP 50 A2 ⟨hOn.1, by omega⟩ ⟨hOn.2, by omega⟩, rfl, HG.out, stW_pbk HN0.out zeroP 50, stW_err HI2.out.r1 zeroP 50, HI2.out.ge, Nat.le_trans HI2.out.sz (stW_only (O := fun _ => True) w.heap.size zeroP 50 A2 trivial trivial).size, HI2.out.bl.trans (Only.below (stW_only (O := fun k => w.heap.size ≤ k) w.heap.size zeroP 50 A2 (Nat.le_refl _) (Nat.le_succ _)) HI2.out.bl.size (fun _ h => h))⟩
    · simp only [encP]
      gi_wp2_with fail
      refine ⟨Only.alloc _ _ _, ?_⟩
      intro A2 ho2 hsz2
      rw [World.size_alloc] at hsz2
      have HI2 := Lib.hid (getI_stable w _ hs1 pre O O A A2 HI.out ((Only.alloc O A _).trans ho2) (fun _ h => .inl h))
      have hx := (ho2.heap (World.alloc_heap_new A _) (fun h => by have := (HW.out.2 _ h).2; omega) : A2.heap[A.heap.size]? = some (.cells #[.int .u64 (n : Nat), .string ⟨v.toArray⟩] 54 (0, 0)))
      have hx0 : A2.cell? ⟨A.heap.size, 0, none⟩ = some (.int .u64 (n : Nat)) := by simp [World.cell?, hx]
      have hx1 : A2.cell? ⟨A.heap.size, 1, none⟩ = some (.string ⟨v.toArray⟩) := by simp [World.cell?, hx]
      have hvn := prs_bound l.length l n v (HPX.out.subset (by simp))
      have HTA2 := Lib.hid (HT.out.below HI2.out.bl hlt)
      obtain ⟨p, cs, hg, hP, hM, hwf⟩ := HI2.out.st
      have hpl : pre.length ≤ 4001 := by
        have h1 := HPX.out.length_le
        have h2 := prs_len l.length l
        simp only [List.length_append, List.length_cons, List.length_nil] at h1
        omega
      have hlook := own_look hM (n := n) hvn.2
      have hc5 := (one_cell HI2.out.at_).1
      have HP2 := Lib.hid hP
      have HM2 := Lib.hid hM
      have HWF := Lib.hid hwf
      have HG0 := Lib.hid hg
      clear ho2 HI hx hP hM hwf hg
      by_cases hcs : n ∈ cs
      · rw [if_pos hcs] at hlook
        have HG : Hid (goG (pre ++ [some (n, v)]) = none) := Lib.hid (by rw [goG_snoc, HG0.out, step_some, if_pos hcs])
        clear hcs
        have HN0 := Lib.hid HI2.out.r0
        obtain ⟨k0, k1⟩ := one_cell HI2.out.r1
        obtain ⟨z0, z1, z2, z3, z4, z5, z6, z7, z8, z9, z10, z11⟩ := zcells HN0.out
        have f0 := HN0.out.fz
        gi_wp2_with fail
        refine ⟨trivial, ?_⟩
        gi_wp2_with fail
        have hOn : ¬ O w.heap.size ∧ ¬ O (w.heap.size + 1) := ⟨fun h => by have := HI2.out.ge _ h; omega, fun h => by have := HI2.out.ge _ h; omega⟩
        have hlv : 1 < w.heap.size := hlt
        refine ⟨stW_only w.heap.size zeroP 50 A2 ⟨hOn.1, by omega⟩ ⟨hOn.2, by omega⟩, rfl, HG.out, stW_pbk HN0.out zeroP 50, stW_err HI2.out.r1 zeroP 50, HI2.out.ge, Nat.le_trans HI2.out.sz (stW_only (O := fun _ => True) w.heap.size zeroP 50 A2 trivial trivial).size, HI2.out.bl.trans (Only.below (stW_only (O := fun k => w.heap.size ≤ k) w.heap.size zeroP 50 A2 (Nat.le_refl _) (Nat.le_succ _)) HI2.out.bl.size (fun _ h => h))⟩
      · rw [if_neg hcs] at hlook
        have CT := take_any w1.heap.size p n v A2 HTA2.out HP2.out (by omega)
        have HCS := Lib.hid hcs
        clear hcs
        cases hk : tkB p n v with
        | false =>
          rw [hk] at CT
          have HG : Hid (goG (pre ++ [some (n, v)]) = none) := Lib.hid (by rw [goG_snoc, HG0.out, step_some, if_neg HCS.out, hk]; rfl)
          have HCT := Lib.hid CT
          clear CT hk
          gi_wp2_with fail
          refine ⟨trivial, rfl, (CallsIn.inRound _ (callsIn_wide.2 HCT.out)).mono ?_⟩
          rintro e W3 ⟨rfl, hP3, ho3⟩
          have HO3 := Lib.hid ho3
          have hN0 := pbk_only HI2.out.r0 ho3 (by omega)
          have hN1 := ho3.heap HI2.out.r1 (by omega)
          have HN0 := Lib.hid hN0
          have HN1 := Lib.hid hN1
          obtain ⟨k0, k1⟩ := one_cell hN1
          obtain ⟨z0, z1, z2, z3, z4, z5, z6, z7, z8, z9, z10, z11⟩ := zcells HN0.out
          have f0 := HN0.out.fz
          clear ho3 hN0 hN1 hP3
          gi_wp2_with fail
          have hOn : ¬ O w.heap.size ∧ ¬ O (w.heap.size + 1) ∧ ¬ O w1.heap.size := ⟨fun h => by have := HI2.out.ge _ h; omega, fun h => by have := HI2.out.ge _ h; omega, fun h => by have := HI2.out.ge _ h; omega⟩
          have hlv : 1 < w.heap.size := hlt
          have ho1 : Only (It.Not O fun k => k = w1.heap.size + 1 + 1 + 1 ∨ k = 1) A2 W3 := HO3.out.mono (fun k hk => by subst hk; exact ⟨hOn.2.2, by omega⟩)
          have hb3 : Below w.heap.size w W3 := HI2.out.bl.trans (HO3.out.below HI2.out.bl.size (fun k hk => by omega))
          refine ⟨ho1.trans (stW_only w.heap.size zeroP 50 W3 ⟨hOn.1, by omega⟩ ⟨hOn.2.1, by omega⟩), rfl, HG.out, stW_pbk HN0.out zeroP 50, stW_err HN1.out zeroP 50, HI2.out.ge, Nat.le_trans (Nat.le_trans HI2.out.sz HO3.out.size) (stW_only (O := fun _ => True) w.heap.size zeroP 50 W3 trivial trivial).size, hb3.trans (Only.below (stW_only (O := fun k => w.heap.size ≤ k) w.heap.size zeroP 50 W3 (Nat.le_refl _) (Nat.le_succ _)) hb3.size (fun _ h => h))⟩
        | true =>
          rw [hk] at CT
          have HG : Hid (goG (pre ++ [some (n, v)]) = some (tkP p n v, n :: cs)) := Lib.hid (by rw [goG_snoc, HG0.out, step_some, if_neg HCS.out, hk]; rfl)
          have HCT := Lib.hid CT
          clear CT hk
          gi_wp2_with fail
          refine ⟨trivial, rfl, (CallsIn.inRound _ (callsIn_wide.2 HCT.out)).mono ?_⟩
          rintro e W3 ⟨rfl, hP3, ho3⟩
          have HO3 := Lib.hid ho3
          have HP3 := Lib.hid hP3
          have hM3 := own_only HM2.out ho3 (by omega)
          have hlook3 := own_look hM3 (n := n) hvn.2
          rw [if_neg HCS.out] at hlook3
          obtain ⟨W5, hput, hM5, hg5⟩ := own_put hM3 (n := n) hvn.2 (by omega)
          have hc53 := (one_cell (ho3.heap HI2.out.at_ (by omega))).1
          have hx3 := ho3.cell hx0 (by simp only; omega)
          have HM5 := Lib.hid hM5
          have HG5 := Lib.hid hg5
          clear ho3 hP3 hM3 hM5 hg5
          gi_wp2_with fail
          have hOn : ¬ O w1.heap.size ∧ ¬ O (w1.heap.size + 1) := ⟨fun h => by have := HI2.out.ge _ h; omega, fun h => by have := HI2.out.ge _ h; omega⟩
          have hlv : 1 < w.heap.size := hlt
          have hg3 : Only (fun k => k = w1.heap.size + 1) W3 W5 := Only.of_grown HG5.out (fun k hk => (Option.some.inj hk).symm)
          have ho5 : Only (fun k => k = w1.heap.size ∨ k = w1.heap.size + 1) A2 W5 := (HO3.out.mono (fun k hk => .inl hk)).trans (hg3.mono (fun k hk => .inr hk))
          refine ⟨ho5.mono (fun k hk => ?_), ⟨tkP p n v, n :: cs, HG.out, pbk_only HP3.out hg3 (by omega), ?_, tkP_wf HWF.out n v (by omega)⟩, ho5.heap HI2.out.at_ (by omega), pbk_only HI2.out.r0 ho5 (by omega), ho5.heap HI2.out.r1 (by omega), HI2.out.ge, Nat.le_trans HI2.out.sz ho5.size, HI2.out.bl.trans (ho5.below HI2.out.bl.size (fun k hk => by omega))⟩
          · rcases hk with rfl | rfl
            · exact ⟨hOn.1, by omega⟩
            · exact ⟨hOn.2, by omega⟩
          · rw [List.length_append]; exact HM5.out
  case done =>
    rintro D O B hw hOD hD hi
    obtain ⟨p, cs, hg, hP, hM, hwf⟩ := hi.st
    have hDl := hi.ge D hOD
    have HP := Lib.hid hP
    have HDD := Lib.hid hD
    have CC := Lib.hid (check_any p B (HL.out.below hi.bl hltL) hwf)
    have HIB := Lib.hid hi
    have c0 := hP.cell0
    have c1 := hP.cell1
    have c2 := hP.cell2
    have c3 := hP.cell3
    have c4 := hP.cell4
    have c5 := hP.cell5
    have c6 := hP.cell6
    have c7 := hP.cell7
    have c8 := hP.cell8
    have c9 := hP.cell9
    have c10 := hP.cell10
    have c11 := hP.cell11
    have HGG := Lib.hid hg
    clear hw hOD hD hi hP hM hwf hit HI0 hg
    cases hc : chkB p with
    | false =>
      rw [chkE_no hc] at CC
      have HO0 : Hid (getO l = none) := Lib.hid (by unfold getO; rw [HGG.out]; simp [hc])
      clear hc
      gi_wp2_with fail
      refine ⟨trivial, rfl, (callsIn_wide.2 CC.out).mono ?_⟩
      rintro e W3 ⟨rfl, hb3⟩
      have hN0 := HIB.out.r0.keep hb3
      have hN1 := (hb3.block (w.heap.size + 1) (by have := HIB.out.sz; omega)).trans HIB.out.r1
      have HD3 := Lib.hid ((hb3.block D (by have := HDD.out; rcases Nat.lt_or_ge D B.heap.size with h | h; exact h; rw [Array.getElem?_eq_none h] at this; cases this)).trans HDD.out)
      have HB3 := Lib.hid (HIB.out.bl.trans (hb3.mono HIB.out.bl.size))
      have HN0 := Lib.hid hN0
      have HN1 := Lib.hid hN1
      obtain ⟨k0, k1⟩ := one_cell hN1
      obtain ⟨z0, z1, z2, z3, z4, z5, z6, z7, z8, z9, z10, z11⟩ := zcells HN0.out
      have f0 := HN0.out.fz
      clear hb3 hN0 hN1 CC
      gi_wp2_with fail
      refine ⟨by simp, .inl ⟨_, _, rfl, run_takeDeferred (((stW_only (O := fun k => k < D) w.heap.size zeroP 50 W3 (by omega) (by omega)).block D (by have := HD3.out; rcases Nat.lt_or_ge D W3.heap.size with h | h; exact h; rw [Array.getElem?_eq_none h] at this; cases this) (by omega)).trans HD3.out), ?_⟩⟩
      obtain ⟨e0, e1⟩ := get_end (stW_pbk HN0.out zeroP 50) (stW_err HN1.out zeroP 50) (show w.heap.size + 1 < D by omega)
      obtain ⟨e2, e3⟩ := one_cell e1
      have y0 := e0.cell0
      have y1 := e0.cell1
      have y2 := e0.cell2
      have y3 := e0.cell3
      have y4 := e0.cell4
      have y5 := e0.cell5
      have y6 := e0.cell6
      have y7 := e0.cell7
      have y8 := e0.cell8
      have y9 := e0.cell9
      have y10 := e0.cell10
      have y11 := e0.cell11
      refine ⟨.tuple #[pv zeroP, .int .i64 50], (by
        change Sem.run Tryd.prog (results _ _) ((stW w.heap.size zeroP 50 W3).putObj D (.deferred none)) = Result.ok _ ((stW w.heap.size zeroP 50 W3).putObj D (.deferred none))
        generalize ((stW w.heap.size zeroP 50 W3).putObj D (.deferred none)) = X at y0 y1 y2 y3 y4 y5 y6 y7 y8 y9 y10 y11 e2 ⊢
        simp [results, Tryd.results11, go_sem, pv, y0, y1, y2, y3, y4, y5, y6, y7, y8, y9, y10, y11, e2]), ?_, (HB3.out.trans (Only.below (stW_only (O := fun k => w.heap.size ≤ k) w.heap.size zeroP 50 W3 (Nat.le_refl _) (Nat.le_succ _)) HB3.out.size (fun _ h => h))).trans (Only.below (Only.putObj (O := fun k => k = D) rfl _ _) (Nat.le_trans HB3.out.size (stW_only (O := fun k => w.heap.size ≤ k) w.heap.size zeroP 50 W3 (Nat.le_refl _) (Nat.le_succ _)).size) (fun k hk => by omega))⟩
      rw [getP_no HO0.out, getE_no HO0.out]
    | true =>
      rw [chkE_yes hc] at CC
      have HO0 : Hid (getO l = some p) := Lib.hid (by unfold getO; rw [HGG.out]; simp [hc])
      clear hc
      gi_wp2_with fail
      refine ⟨trivial, rfl, (callsIn_wide.2 CC.out).mono ?_⟩
      rintro e W3 ⟨rfl, hb3⟩
      have hN0 := HIB.out.r0.keep hb3
      have hN1 := (hb3.block (w.heap.size + 1) (by have := HIB.out.sz; omega)).trans HIB.out.r1
      have HD3 := Lib.hid ((hb3.block D (by have := HDD.out; rcases Nat.lt_or_ge D B.heap.size with h | h; exact h; rw [Array.getElem?_eq_none h] at this; cases this)).trans HDD.out)
      have HB3 := Lib.hid (HIB.out.bl.trans (hb3.mono HIB.out.bl.size))
      have HP3 := Lib.hid (HP.out.keep hb3)
      have HN0 := Lib.hid hN0
      have HN1 := Lib.hid hN1
      obtain ⟨k0, k1⟩ := one_cell hN1
      obtain ⟨z0, z1, z2, z3, z4, z5, z6, z7, z8, z9, z10, z11⟩ := zcells HN0.out
      have f0 := HN0.out.fz
      clear hb3 hN0 hN1 CC c0 c1 c2 c3 c4 c5 c6 c7 c8 c9 c10 c11
      have c0 := HP3.out.cell0
      have c1 := HP3.out.cell1
      have c2 := HP3.out.cell2
      have c3 := HP3.out.cell3
      have c4 := HP3.out.cell4
      have c5 := HP3.out.cell5
      have c6 := HP3.out.cell6
      have c7 := HP3.out.cell7
      have c8 := HP3.out.cell8
      have c9 := HP3.out.cell9
      have c10 := HP3.out.cell10
      have c11 := HP3.out.cell11
      gi_wp2_with fail
      refine ⟨by simp, .inl ⟨_, _, rfl, run_takeDeferred (((stW_only (O := fun k => k < D) w.heap.size p 0 W3 (by omega) (by omega)).block D (by have := HD3.out; rcases Nat.lt_or_ge D W3.heap.size with h | h; exact h; rw [Array.getElem?_eq_none h] at this; cases this) (by omega)).trans HD3.out), ?_⟩⟩
      obtain ⟨e0, e1⟩ := get_end (stW_pbk HN0.out p 0) (stW_err HN1.out p 0) (show w.heap.size + 1 < D by omega)
      obtain ⟨e2, e3⟩ := one_cell e1
      have y0 := e0.cell0
      have y1 := e0.cell1
      have y2 := e0.cell2
      have y3 := e0.cell3
      have y4 := e0.cell4
      have y5 := e0.cell5
      have y6 := e0.cell6
      have y7 := e0.cell7
      have y8 := e0.cell8
      have y9 := e0.cell9
      have y10 := e0.cell10
      have y11 := e0.cell11
      refine ⟨.tuple #[pv p, .int .i64 0], (by
        change Sem.run Tryd.prog (results _ _) ((stW w.heap.size p 0 W3).putObj D (.deferred none)) = Result.ok _ ((stW w.heap.size p 0 W3).putObj D (.deferred none))
        generalize ((stW w.heap.size p 0 W3).putObj D (.deferred none)) = X at y0 y1 y2 y3 y4 y5 y6 y7 y8 y9 y10 y11 e2 ⊢
        simp [results, Tryd.results11, go_sem, pv, y0, y1, y2, y3, y4, y5, y6, y7, y8, y9, y10, y11, e2]), ?_, (HB3.out.trans (Only.below (stW_only (O := fun k => w.heap.size ≤ k) w.heap.size p 0 W3 (Nat.le_refl _) (Nat.le_succ _)) HB3.out.size (fun _ h => h))).trans (Only.below (Only.putObj (O := fun k => k = D) rfl _ _) (Nat.le_trans HB3.out.size (stW_only (O := fun k => w.heap.size ≤ k) w.heap.size p 0 W3 (Nat.le_refl _) (Nat.le_succ _)).size) (fun k hk => by omega))⟩
      rw [getP_yes HO0.out, getE_yes HO0.out]
  case stop =>
    rintro D c pre O B hw hOD hD hpre ⟨rfl, hi2, hi3, hi4, hi5, hi6, hi7⟩
    have hDl := hi5 D hOD
    have HDD := Lib.hid hD
    have HN0 := Lib.hid hi3
    have HN1 := Lib.hid hi4
    have HB7 := Lib.hid hi7
    have HO0 : Hid (getO l = none) := Lib.hid (by unfold getO; rw [goG_prefix hpre hi2])
    clear hi2 hi3 hi4 hi5 hi6 hi7 hw hit hpre HI0 hD hOD
    gi_wp2_with fail
    refine ⟨by simp, .inl ⟨_, _, rfl, run_takeDeferred HDD.out, ?_⟩⟩
    obtain ⟨e0, e1⟩ := get_end HN0.out HN1.out (show w.heap.size + 1 < D by omega)
    obtain ⟨e2, e3⟩ := one_cell e1
    have y0 := e0.cell0
    have y1 := e0.cell1
    have y2 := e0.cell2
    have y3 := e0.cell3
    have y4 := e0.cell4
    have y5 := e0.cell5
    have y6 := e0.cell6
    have y7 := e0.cell7
    have y8 := e0.cell8
    have y9 := e0.cell9
    have y10 := e0.cell10
    have y11 := e0.cell11
    refine ⟨.tuple #[pv zeroP, .int .i64 50], (by
        change Sem.run Tryd.prog (results _ _) (B.putObj D (.deferred none)) = Result.ok _ (B.putObj D (.deferred none))
        generalize (B.putObj D (.deferred none)) = X at y0 y1 y2 y3 y4 y5 y6 y7 y8 y9 y10 y11 e2 ⊢
        simp [results, Tryd.results11, go_sem, pv, y0, y1, y2, y3, y4, y5, y6, y7, y8, y9, y10, y11, e2]), ?_, HB7.out.trans (Only.below (Only.putObj (O := fun k => k = D) rfl _ _) HB7.out.size (fun k hk => by omega))⟩
    rw [getP_no HO0.out, getE_no HO0.out]
  · rcases hq with rfl | rfl <;> omega
end Go.Proofs.YthhcpedaldlccaaDoor.Pm
