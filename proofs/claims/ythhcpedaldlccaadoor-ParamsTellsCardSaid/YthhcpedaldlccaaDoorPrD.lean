/- The document's Get of layer 5. -/
import Derived.Test.YthhcpedaldlccaaDoorPrC
import Derived.Deep.QuietTactic
import Derived.BigQuiet
import Derived.Laws.AppendOwn
namespace Go.Proofs.YthhcpedaldlccaaDoor.Pm
open Go.RowKit Vm
set_option linter.unusedVariables false
set_option linter.unusedSimpArgs false

theorem rgets_none {r : List UInt8} (h : gst r 2 = none) (hr : r.length ≤ 4000) (w : World) : Calls Tryd.prog 25 #[.string ⟨r.toArray⟩, .int .i64 2] w fun e w' => e = .returned (.tuple #[.slice none 0 0, .string ⟨#[]⟩, .int .i64 10]) ∧ Below w.heap.size w w' := by
  refine (rgets ⟨r.toArray⟩ 2 w (by rw [size_len]; exact hr) (by decide)).mono ?_
  rintro e w' ⟨hb, hp⟩
  rw [show (⟨r.toArray⟩ : ByteArray).data.toList = r from rfl, show (2 : Int).toNat = 2 from rfl, h] at hp
  exact ⟨hp, hb⟩
theorem rgets_two {r rr : List UInt8} {n k : Nat} (h : gst r 2 = some ([n, k], rr)) (hr : r.length ≤ 4000) (w : World) : Calls Tryd.prog 25 #[.string ⟨r.toArray⟩, .int .i64 2] w fun e w' => ∃ g c, e = .returned (.tuple #[.slice (some ⟨g, 0, none⟩) 2 c, .string ⟨rr.toArray⟩, .int .i64 0]) ∧ w.heap.size ≤ g ∧ w'.cell? ⟨g, 0, none⟩ = some (.int .u64 (n : Nat)) ∧ w'.cell? ⟨g, 1, none⟩ = some (.int .u64 (k : Nat)) ∧ Below w.heap.size w w' := by
  refine (rgets ⟨r.toArray⟩ 2 w (by rw [size_len]; exact hr) (by decide)).mono ?_
  rintro e w' ⟨hb, hp⟩
  rw [show (⟨r.toArray⟩ : ByteArray).data.toList = r from rfl, show (2 : Int).toNat = 2 from rfl, h] at hp
  obtain ⟨v, he, hv⟩ := hp
  rcases hv.2 with ⟨_, h0⟩ | ⟨g, cap, cur, hvv, _⟩
  · exact absurd h0 (by simp)
  · refine ⟨g, cap, by rw [he, hvv]; rfl, (hv.lt g (by rw [hvv]; rfl)).1, ?_, ?_, hb⟩
    · subst hvv; simpa [numCells] using hv.cellAt 0 (by simp)
    · subst hvv; simpa [numCells] using hv.cellAt 1 (by simp)
theorem rbk_only {N : Nat} {p : Prm} {W W' : World} {O : Nat → Prop} (h : RBk N p W) (ho : It.Only O W W') (hn : ¬ O N) : RBk N p W' := by
  unfold RBk at *
  exact ho.heap h hn
theorem num_yes {n : Nat} (h : rvB n = true) (p : Prm) (v : List UInt8) : n ≠ 2 ∧ tkB p n v = (decide (gk v ≤ v.length) && (gR v).isEmpty) ∧ tkP p n v = setF p n (gN v : Nat) := by
  match n with
  | 1 | 3 | 4 | 5 | 6 | 7 | 8 | 9 | 10 | 11 | 14 => exact ⟨by decide, rfl, rfl⟩
  | 0 | 2 | 12 | 13 => cases h
  | k + 15 => cases h
theorem num_no {n : Nat} (h : rvB n = false) (h2 : n ≠ 2) (p : Prm) (v : List UInt8) : tkB p n v = true ∧ tkP p n v = p := by
  match n with
  | 1 | 3 | 4 | 5 | 6 | 7 | 8 | 9 | 10 | 11 | 14 => cases h
  | 0 | 12 | 13 => exact ⟨rfl, rfl⟩
  | 2 => exact absurd rfl h2
  | k + 15 => exact ⟨rfl, rfl⟩
theorem mem_snoc {hs cs : List Nat} {n : Nat} (h : ∀ m, m ∈ hs ↔ m ∈ cs) : ∀ m, m ∈ hs ++ [n] ↔ m ∈ n :: cs := fun m => by
  rw [List.mem_append, List.mem_singleton, List.mem_cons, h m]
  exact or_comm
/-- What stands within a round. -/
structure RS (w : World) (P g : Nat) (p : Prm) (n k : Nat) (hv : Value) (hs : List Nat) (W : World) : Prop where
  bp : RBk P p W
  bn : RBk w.heap.size zeroP W
  c0 : W.cell? ⟨g, 0, none⟩ = some (.int .u64 (n : Nat))
  c1 : W.cell? ⟨g, 1, none⟩ = some (.int .u64 (k : Nat))
  own : W.ownsRow (P + 1) 22 1 hv hs.length (numCells hs)
  bel : Below w.heap.size w W
  gt : ∀ q, hv.ownBlock = some q → q < g
  gp : P + 2 ≤ g
  sz : P + 2 ≤ W.heap.size
theorem RS.keep {w : World} {P g : Nat} {p : Prm} {n k : Nat} {hv : Value} {hs : List Nat} {W W' : World} (h : RS w P g p n k hv hs W) (hb : Below W.heap.size W W') : RS w P g p n k hv hs W' :=
  ⟨h.bp.keep hb, h.bn.keep hb, (hb.cell (p := ⟨g, 0, none⟩) (World.block_lt_of_cell? W _ h.c0)).trans h.c0, (hb.cell (p := ⟨g, 1, none⟩) (World.block_lt_of_cell? W _ h.c1)).trans h.c1, owns_below h.own hb, h.bel.trans (hb.mono h.bel.size), h.gt, h.gp, Nat.le_trans h.sz hb.size⟩
/-- What stands within a round, behind the append. -/
structure RT (w : World) (P g : Nat) (p : Prm) (n k : Nat) (hv : Value) (hs : List Nat) (W : World) : Prop where
  bp : RBk P p W
  bn : RBk w.heap.size zeroP W
  c0 : W.cell? ⟨g, 0, none⟩ = some (.int .u64 (n : Nat))
  c1 : W.cell? ⟨g, 1, none⟩ = some (.int .u64 (k : Nat))
  own : W.ownsRow (P + 1) 22 1 hv hs.length (numCells hs)
  bel : Below w.heap.size w W
  gp : P + 2 ≤ g
  sz : P + 2 ≤ W.heap.size
  np : w.heap.size < P
theorem RT.keep {w : World} {P g : Nat} {p : Prm} {n k : Nat} {hv : Value} {hs : List Nat} {W W' : World} (h : RT w P g p n k hv hs W) (hb : Below W.heap.size W W') : RT w P g p n k hv hs W' :=
  ⟨h.bp.keep hb, h.bn.keep hb, (hb.cell (p := ⟨g, 0, none⟩) (World.block_lt_of_cell? W _ h.c0)).trans h.c0, (hb.cell (p := ⟨g, 1, none⟩) (World.block_lt_of_cell? W _ h.c1)).trans h.c1, owns_below h.own hb, h.bel.trans (hb.mono h.bel.size), h.gp, Nat.le_trans h.sz hb.size, h.np⟩
/-- The parameters' block, turned. -/
theorem RT.turn {w : World} {P g : Nat} {p q : Prm} {n k : Nat} {hv : Value} {hs : List Nat} {W W' : World} (h : RT w P g p n k hv hs W) (ho : It.Only (fun k => k = P) W W') (hq : RBk P q W') : RT w P g q n k hv hs W' := by
  have hgr : W.grownBy W' (some P) := ⟨ho.os, ho.tape, ho.output, ho.size, fun k hk hn => ho.block k hk (fun e => hn (by rw [e]))⟩
  have hgp := h.gp
  have hnp := h.np
  refine ⟨hq, rbk_only h.bn ho (by omega), ho.cell h.c0 (by simp only; omega), ho.cell h.c1 (by simp only; omega), h.own.kept hgr ?_, h.bel.trans (ho.below h.bel.size (fun k hk => by omega)), h.gp, Nat.le_trans h.sz ho.size, h.np⟩
  cases hb : hv.ownBlock with
  | none => exact .inl rfl
  | some q => exact .inr (fun e => by have := (h.own.lt q hb).1; cases e; omega)
theorem RT.append {w : World} {P g : Nat} {p : Prm} {n k : Nat} {hv v' : Value} {hs : List Nat} {W W' : World} {o : Obj} (h : RS w P g p n k hv hs W) (hown : W'.ownsRow (P + 1) 22 1 v' (hs.length + 1) (numCells hs ++ [.int .u64 ((n : Nat) : Int)])) (hg : (W.alloc o).grownBy W' hv.ownBlock) (hnp : w.heap.size < P) : RT w P g p n k v' (hs ++ [n]) W' := by
  have ho : It.Only (fun k => hv.ownBlock = some k) W W' := (It.Only.alloc _ W o).trans (It.Only.of_grown hg (fun k hk => hk))
  have hlt := h.own.lt
  have hsz := h.sz
  have hgp := h.gp
  have hne : ∀ q, q ≤ P → ¬ hv.ownBlock = some q := fun q hq e => by have := (hlt q e).1; omega
  have hng : ¬ hv.ownBlock = some g := fun e => by have := h.gt g e; omega
  refine ⟨rbk_only h.bp ho (hne _ (Nat.le_refl _)), rbk_only h.bn ho (hne _ (by omega)), ho.cell h.c0 hng, ho.cell h.c1 hng, ?_, h.bel.trans (ho.below h.bel.size (fun q hq => by have := (hlt q hq).1; have := h.bel.size; omega)), hgp, Nat.le_trans hsz ho.size, hnp⟩
  have e1 : (hs ++ [n]).length = hs.length + 1 := by simp
  rw [e1, numCells_append]
  exact hown
/-- A block of the document's parameters, stored anew. -/
def rst (N : Nat) (q : Prm) (W : World) : World :=
  ((((((((((((W.setCell ⟨N, 0, none⟩ (.int .u64 q.idle)).setCell ⟨N, 1, none⟩ (.int .u64 q.size)).setCell ⟨N, 2, none⟩ (.int .u64 q.data)).setCell ⟨N, 3, none⟩ (.int .u64 q.bl)).setCell ⟨N, 4, none⟩ (.int .u64 q.br)).setCell ⟨N, 5, none⟩ (.int .u64 q.uni)).setCell ⟨N, 6, none⟩ (.int .u64 q.bidis)).setCell ⟨N, 7, none⟩ (.int .u64 q.unis)).setCell ⟨N, 8, none⟩ (.int .u64 q.expo)).setCell ⟨N, 9, none⟩ (.int .u64 q.delay)).setCell ⟨N, 10, none⟩ (.int .u64 q.ids)).setCell ⟨N, 11, none⟩ (.string ⟨q.tok.toArray⟩))
theorem rst_only (N : Nat) (q : Prm) (W : World) : It.Only (fun k => k = N) W (rst N q W) := by
  unfold rst
  iterate 12 (refine It.Only.trans ?_ (It.Only.setCell (O := fun k => k = N) rfl _ _))
  exact It.Only.refl _ _
theorem rst_rbk {N : Nat} {p : Prm} {W : World} (h : RBk N p W) (q : Prm) : RBk N q (rst N q W) :=
  (((((((((((h.set0 q.idle).set1 q.size).set2 q.data).set3 q.bl).set4 q.br).set5 q.uni).set6 q.bidis).set7 q.unis).set8 q.expo).set9 q.delay).set10 q.ids).set11 q.tok
theorem rzcells {b : Nat} {W : World} (h : RBk b zeroP W) : W.cell? ⟨b, 0, none⟩ = some (.int .u64 0) ∧ W.cell? ⟨b, 1, none⟩ = some (.int .u64 0) ∧ W.cell? ⟨b, 2, none⟩ = some (.int .u64 0) ∧ W.cell? ⟨b, 3, none⟩ = some (.int .u64 0) ∧ W.cell? ⟨b, 4, none⟩ = some (.int .u64 0) ∧ W.cell? ⟨b, 5, none⟩ = some (.int .u64 0) ∧ W.cell? ⟨b, 6, none⟩ = some (.int .u64 0) ∧ W.cell? ⟨b, 7, none⟩ = some (.int .u64 0) ∧ W.cell? ⟨b, 8, none⟩ = some (.int .u64 0) ∧ W.cell? ⟨b, 9, none⟩ = some (.int .u64 0) ∧ W.cell? ⟨b, 10, none⟩ = some (.int .u64 0) ∧ W.cell? ⟨b, 11, none⟩ = some (.string ⟨#[]⟩) := ⟨h.cell0, h.cell1, h.cell2, h.cell3, h.cell4, h.cell5, h.cell6, h.cell7, h.cell8, h.cell9, h.cell10, h.cell11⟩
/-- Between two rounds. P: the parameters' block. -/
def RGRel (l : List UInt8) (w : World) (P : Nat) (sv hv : Value) (W : World) : Prop :=
  ∃ (pre : List (Option (Nat × List UInt8))) (r : List UInt8) (p : Prm) (cs hs : List Nat), sv = .string ⟨r.toArray⟩ ∧ r.length ≤ 4000 ∧ prs l.length l = pre ++ prs r.length r ∧ goG pre = some (p, cs) ∧ (∀ n, n ∈ hs ↔ n ∈ cs) ∧ hs.length ≤ pre.length ∧ Wf p ∧ RBk P p W ∧ RBk w.heap.size zeroP W ∧ W.ownsRow (P + 1) 22 1 hv hs.length (numCells hs) ∧ Below w.heap.size w W ∧ P + 2 ≤ W.heap.size
theorem getO_stop {l : List UInt8} {pre : List (Option (Nat × List UInt8))} {x : Option (Nat × List UInt8)} {t : List (Option (Nat × List UInt8))} (h : prs l.length l = pre ++ x :: t) (hn : goG (pre ++ [x]) = none) : getO l = none := by
  unfold getO
  have : goG (prs l.length l) = none := goG_prefix (xs := pre ++ [x]) (by rw [h]; exact ⟨t, by simp⟩) hn
  rw [this]
set_option maxRecDepth 20000 in
set_option maxHeartbeats 16000000 in
theorem rget_any' (l : List UInt8) (W0 : World) (hl : l.length ≤ 4000) : Calls Tryd.prog 12 #[.string ⟨l.toArray⟩] W0 fun e w' => e = .returned (.tuple #[pv (getP l), .int .i64 (getE l)]) ∧ Below W0.heap.size W0 w' := by
  obtain ⟨i0, hi, hz0, hz1, hz2⟩ := info_parts info22
  have hz1 := Lib.hid hz1; have hz2 := Lib.hid hz2; have hz0 := Lib.hid hz0; have hi := Lib.hid hi
  have HN0 : Hid (RBk W0.heap.size zeroP (W0.alloc (.cells #[.int .u64 0, .int .u64 0, .int .u64 0, .int .u64 0, .int .u64 0, .int .u64 0, .int .u64 0, .int .u64 0, .int .u64 0, .int .u64 0, .int .u64 0, .string ⟨#[]⟩] 26))) := Lib.hid (RBk.made W0 zeroP)
  go_enter Tryd.func12, Tryd.ntmps12
  go_wp2_with fail
  refine (rdefault_any _).mono ?_
  rintro e w1 ⟨rfl, hb⟩
  have hs1 : W0.heap.size + 1 ≤ w1.heap.size := by have := hb.size; simpa using this
  have HN1 := Lib.hid (HN0.out.keep hb)
  have HB1 := Lib.hid (((Below.refl W0.heap.size W0).alloc (Nat.le_refl _) (.cells #[.int .u64 0, .int .u64 0, .int .u64 0, .int .u64 0, .int .u64 0, .int .u64 0, .int .u64 0, .int .u64 0, .int .u64 0, .int .u64 0, .int .u64 0, .string ⟨#[]⟩] 26)).trans (hb.mono (by simp)))
  have HP1 : Hid (RBk w1.heap.size usual (w1.alloc (.cells #[.int .u64 0, .int .u64 65527, .int .u64 0, .int .u64 0, .int .u64 0, .int .u64 0, .int .u64 0, .int .u64 0, .int .u64 3, .int .u64 25, .int .u64 2, .string ⟨#[]⟩] 26))) := Lib.hid (RBk.made w1 usual)
  clear hb HN0
  go_wp2
  go_loopw [0, 5] (fun sv hv wr => RGRel l W0 w1.heap.size sv hv wr) (fun sv _ _ => strLen sv)
  case atStart =>
    refine ⟨[], l, usual, [], [], rfl, hl, rfl, rfl, fun n => Iff.rfl, Nat.le_refl _, usual_wf, ?_, ?_, ?_, ?_, by simp⟩
    · exact HP1.out.keep ((Below.refl _ _).alloc (Nat.le_refl _) _)
    · exact HN1.out.keep (((Below.refl _ _).alloc (Nat.le_refl _) _).alloc (by simp) _)
    · have := World.ownsRow_made (base := w1.heap.size + 1) (e := 22) (size := 1) (w1.alloc (.cells #[.int .u64 0, .int .u64 65527, .int .u64 0, .int .u64 0, .int .u64 0, .int .u64 0, .int .u64 0, .int .u64 0, .int .u64 3, .int .u64 25, .int .u64 2, .string ⟨#[]⟩] 26)) #[] 0 (by simp) (by unfold maxLen; omega) rfl
      rw [World.size_alloc] at this
      exact this
    · exact (HB1.out.alloc (by omega) _).alloc (by simp; omega) _
  case round =>
    obtain ⟨pre, r, p, cs, hs, rfl, hr, hpre, hg, hmem, hln, hwf, hP, hN, hown, hb, hsz⟩ := hrel
    have HPRE := Lib.hid hpre
    have HG := Lib.hid hg
    have HM := Lib.hid hmem
    have HW := Lib.hid hwf
    have hplen : pre.length ≤ 4000 := by
      have h1 := prs_len l.length l
      rw [hpre, List.length_append] at h1
      omega
    clear hpre hg hmem hwf
    by_cases hr0 : r = []
    · subst hr0
      have he : (!([] : List UInt8).isEmpty) = false := rfl
      have HPr := Lib.hid hP
      have HNr := Lib.hid hN
      have HB := Lib.hid hb
      have CC := Lib.hid (fun W0 => rcheck_any p W0 HW.out)
      clear hP hN hown hb
      have a0 := HPr.out.cell0
      have a1 := HPr.out.cell1
      have a2 := HPr.out.cell2
      have a3 := HPr.out.cell3
      have a4 := HPr.out.cell4
      have a5 := HPr.out.cell5
      have a6 := HPr.out.cell6
      have a7 := HPr.out.cell7
      have a8 := HPr.out.cell8
      have a9 := HPr.out.cell9
      have a10 := HPr.out.cell10
      have a11 := HPr.out.cell11
      cases hc : chkB p with
      | false =>
        rw [chkE_no hc] at CC
        have HO : Hid (getO l = none) := Lib.hid (by
          unfold getO
          rw [HPRE.out, prs_nil, List.append_nil, HG.out]
          simp [hc])
        clear hc
        go_wp2_with fail
        refine (CC.out _).mono ?_
        rintro e w2 ⟨rfl, hb⟩
        have HN2 := Lib.hid (HNr.out.keep hb)
        have HB2 := Lib.hid (HB.out.trans (hb.mono HB.out.size))
        clear hb a0 a1 a2 a3 a4 a5 a6 a7 a8 a9 a10 a11
        obtain ⟨z0, z1, z2, z3, z4, z5, z6, z7, z8, z9, z10, z11⟩ := rzcells HN2.out
        have f0 := HN2.out.fz
        go_wp2
        refine bodyPost_ret (v := .tuple #[pv zeroP, .int .i64 50]) (by
          change Sem.run Tryd.prog (results _ _) (rst W0.heap.size zeroP w2) = Result.ok _ (rst W0.heap.size zeroP w2)
          have e := rst_rbk HN2.out zeroP
          have y0 := e.cell0
          have y1 := e.cell1
          have y2 := e.cell2
          have y3 := e.cell3
          have y4 := e.cell4
          have y5 := e.cell5
          have y6 := e.cell6
          have y7 := e.cell7
          have y8 := e.cell8
          have y9 := e.cell9
          have y10 := e.cell10
          have y11 := e.cell11
          generalize (rst W0.heap.size zeroP w2) = X at y0 y1 y2 y3 y4 y5 y6 y7 y8 y9 y10 y11 ⊢
          simp [results, Tryd.results12, go_sem, pv, y0, y1, y2, y3, y4, y5, y6, y7, y8, y9, y10, y11]) rfl ⟨?_, ?_⟩
        · rw [getP_no HO.out, getE_no HO.out]
        · exact HB2.out.trans ((rst_only W0.heap.size zeroP w2).below HB2.out.size (fun k hk => by omega))
      | true =>
        rw [chkE_yes hc] at CC
        have HO : Hid (getO l = some p) := Lib.hid (by
          unfold getO
          rw [HPRE.out, prs_nil, List.append_nil, HG.out]
          simp [hc])
        clear hc
        go_wp2_with fail
        refine (CC.out _).mono ?_
        rintro e w2 ⟨rfl, hb⟩
        have HN2 := Lib.hid (HNr.out.keep hb)
        have HP2 := Lib.hid (HPr.out.keep hb)
        have HB2 := Lib.hid (HB.out.trans (hb.mono HB.out.size))
        clear hb a0 a1 a2 a3 a4 a5 a6 a7 a8 a9 a10 a11
        have a0 := HP2.out.cell0
        have a1 := HP2.out.cell1
        have a2 := HP2.out.cell2
        have a3 := HP2.out.cell3
        have a4 := HP2.out.cell4
        have a5 := HP2.out.cell5
        have a6 := HP2.out.cell6
        have a7 := HP2.out.cell7
        have a8 := HP2.out.cell8
        have a9 := HP2.out.cell9
        have a10 := HP2.out.cell10
        have a11 := HP2.out.cell11
        obtain ⟨z0, z1, z2, z3, z4, z5, z6, z7, z8, z9, z10, z11⟩ := rzcells HN2.out
        have f0 := HN2.out.fz
        go_wp2
        refine bodyPost_ret (v := .tuple #[pv p, .int .i64 0]) (by
          change Sem.run Tryd.prog (results _ _) (rst W0.heap.size p w2) = Result.ok _ (rst W0.heap.size p w2)
          have e := rst_rbk HN2.out p
          have y0 := e.cell0
          have y1 := e.cell1
          have y2 := e.cell2
          have y3 := e.cell3
          have y4 := e.cell4
          have y5 := e.cell5
          have y6 := e.cell6
          have y7 := e.cell7
          have y8 := e.cell8
          have y9 := e.cell9
          have y10 := e.cell10
          have y11 := e.cell11
          generalize (rst W0.heap.size p w2) = X at y0 y1 y2 y3 y4 y5 y6 y7 y8 y9 y10 y11 ⊢
          simp [results, Tryd.results12, go_sem, pv, y0, y1, y2, y3, y4, y5, y6, y7, y8, y9, y10, y11]) rfl ⟨?_, ?_⟩
        · rw [getP_yes HO.out, getE_yes HO.out]
        · exact HB2.out.trans ((rst_only W0.heap.size p w2).below HB2.out.size (fun k hk => by omega))
    · have he : (!r.isEmpty) = true := by cases r with | nil => exact absurd rfl hr0 | cons b t => rfl
      have HR0 := Lib.hid hr0
      clear hr0
      rcases gst_two r with hgst | ⟨n, k, rr, hgst, hn, hk, hrl⟩
      · have CG := Lib.hid (fun W0 => rgets_none hgst hr W0)
        have HO : Hid (getO l = none) := Lib.hid (getO_stop (x := none) (t := []) (by rw [HPRE.out, prs_none HR0.out (by unfold cutO; rw [hgst])]) (by rw [goG_snoc]; cases goG pre <;> rfl))
        have HNr := Lib.hid hN
        have HB := Lib.hid hb
        clear hP hN hown hb hgst
        go_wp2_with fail
        refine (CG.out _).mono ?_
        rintro e w2 ⟨rfl, hb⟩
        have HN2 := Lib.hid (HNr.out.keep hb)
        have HB2 := Lib.hid (HB.out.trans (hb.mono HB.out.size))
        clear hb
        obtain ⟨z0, z1, z2, z3, z4, z5, z6, z7, z8, z9, z10, z11⟩ := rzcells HN2.out
        have f0 := HN2.out.fz
        go_wp2
        refine bodyPost_ret (v := .tuple #[pv zeroP, .int .i64 50]) (by
          change Sem.run Tryd.prog (results _ _) (rst W0.heap.size zeroP w2) = Result.ok _ (rst W0.heap.size zeroP w2)
          have e := rst_rbk HN2.out zeroP
          have y0 := e.cell0
          have y1 := e.cell1
          have y2 := e.cell2
          have y3 := e.cell3
          have y4 := e.cell4
          have y5 := e.cell5
          have y6 := e.cell6
          have y7 := e.cell7
          have y8 := e.cell8
          have y9 := e.cell9
          have y10 := e.cell10
          have y11 := e.cell11
          generalize (rst W0.heap.size zeroP w2) = X at y0 y1 y2 y3 y4 y5 y6 y7 y8 y9 y10 y11 ⊢
          simp [results, Tryd.results12, go_sem, pv, y0, y1, y2, y3, y4, y5, y6, y7, y8, y9, y10, y11]) rfl ⟨?_, ?_⟩
        · rw [getP_no HO.out, getE_no HO.out]
        · exact HB2.out.trans ((rst_only W0.heap.size zeroP w2).below HB2.out.size (fun k hk => by omega))
      · have CG := Lib.hid (fun W0 => rgets_two hgst hr W0)
        have hrr : ((rr.length : Nat) : Int) ≤ 4000 := by omega
        have hwr : IntKind.u64.wrap ((rr.length : Nat) : Int) = ((rr.length : Nat) : Int) := by rw [IntKind.wrap_u64]; omega
        have HRS : Hid (∀ W g, wr.heap.size ≤ g → W.cell? ⟨g, 0, none⟩ = some (.int .u64 (n : Nat)) → W.cell? ⟨g, 1, none⟩ = some (.int .u64 (k : Nat)) → Below wr.heap.size wr W → RS W0 w1.heap.size g p n k u5 hs W) := Lib.hid (fun W g hge h0 h1 hB =>
          ⟨hP.keep hB, hN.keep hB, h0, h1, owns_below hown hB, hb.trans (hB.mono hb.size), fun q hq => Nat.lt_of_lt_of_le (hown.lt q hq).2 hge, Nat.le_trans hsz hge, Nat.le_trans hsz hB.size⟩)
        clear hP hN hown hb
        by_cases hf : ((rr.length : Nat) : Int) < ((k : Nat) : Int)
        · have HO : Hid (getO l = none) := Lib.hid (getO_stop (x := none) (t := []) (by rw [HPRE.out, prs_none HR0.out (by unfold cutO; rw [hgst]; simp only; rw [if_neg (by omega)])]) (by rw [goG_snoc]; cases goG pre <;> rfl))
          clear hgst
          go_wp2_with fail
          refine (CG.out _).mono ?_
          rintro e w2 ⟨g, c, rfl, hge, c0, c1, hb⟩
          have HS := Lib.hid (HRS.out w2 g hge c0 c1 hb)
          clear hb HRS
          obtain ⟨z0, z1, z2, z3, z4, z5, z6, z7, z8, z9, z10, z11⟩ := rzcells HS.out.bn
          have f0 := HS.out.bn.fz
          go_wp2
          refine bodyPost_ret (v := .tuple #[pv zeroP, .int .i64 50]) (by
            change Sem.run Tryd.prog (results _ _) (rst W0.heap.size zeroP w2) = Result.ok _ (rst W0.heap.size zeroP w2)
            have e := rst_rbk HS.out.bn zeroP
            have y0 := e.cell0
            have y1 := e.cell1
            have y2 := e.cell2
            have y3 := e.cell3
            have y4 := e.cell4
            have y5 := e.cell5
            have y6 := e.cell6
            have y7 := e.cell7
            have y8 := e.cell8
            have y9 := e.cell9
            have y10 := e.cell10
            have y11 := e.cell11
            generalize (rst W0.heap.size zeroP w2) = X at y0 y1 y2 y3 y4 y5 y6 y7 y8 y9 y10 y11 ⊢
            simp [results, Tryd.results12, go_sem, pv, y0, y1, y2, y3, y4, y5, y6, y7, y8, y9, y10, y11]) rfl ⟨?_, ?_⟩
          · rw [getP_no HO.out, getE_no HO.out]
          · exact HS.out.bel.trans ((rst_only W0.heap.size zeroP w2).below HS.out.bel.size (fun k hk => by omega))
        · have HC : Hid (cutO r = some (n, rr.take k, rr.drop k)) := Lib.hid (by unfold cutO; rw [hgst]; simp only; rw [if_pos (by omega)])
          have HPX : Hid (prs l.length l = pre ++ some (n, rr.take k) :: prs (rr.drop k).length (rr.drop k)) := Lib.hid (by rw [HPRE.out, prs_some HR0.out HC.out])
          clear hgst
          go_wp2_with fail
          refine (CG.out _).mono ?_
          rintro e w2 ⟨g, c, rfl, hge, c0, c1, hb⟩
          have HS := Lib.hid (HRS.out w2 g hge c0 c1 hb)
          have hrd := reads_own HS.out.own
          obtain ⟨a, cap, hvv, hcells⟩ : ∃ a cap, u5 = .slice a hs.length cap ∧ (hs ≠ [] → ∃ b off, a = some ⟨b, off, none⟩ ∧ ∀ i, i < hs.length → w2.cell? ⟨b, off + i, none⟩ = some (.int .u64 ((hs.getD i 0 : Nat) : Int))) := by
            rcases hrd with ⟨h0, a, c, h1⟩ | ⟨b, off, c, h1, h2⟩
            · exact ⟨a, c, by rw [h0]; exact h1, fun h => absurd h0 h⟩
            · exact ⟨_, c, h1, fun _ => ⟨b, off, rfl, h2⟩⟩
          subst hvv
          have HCL := Lib.hid hcells
          clear hb HRS CG hrd hcells
          go_wp2
          go_loopw [9] (fun iv wr => ∃ i : Nat, i ≤ hs.length ∧ iv = .int .i64 (i : Nat) ∧ (∀ j, j < i → hs.getD j 0 ≠ n) ∧ Below w2.heap.size w2 wr) (fun iv _ => hs.length - (intOf iv).toNat)
          case atStart => exact ⟨0, Nat.zero_le _, rfl, fun j hj => by omega, Below.refl _ _⟩
          case round =>
            obtain ⟨i, hi', rfl, hno, hb2⟩ := hrel
            have HNO := Lib.hid hno
            have HS3 := Lib.hid (HS.out.keep hb2)
            have HB23 := Lib.hid hb2
            have c03 := HS3.out.c0
            clear hno c0 c1
            by_cases hlt : i < hs.length
            · obtain ⟨b, off, rfl, hc⟩ := HCL.out (fun h => by rw [h] at hlt; simp at hlt)
              have hci := hc i hlt
              have hci3 := (hb2.cell (p := ⟨b, off + i, none⟩) (World.block_lt_of_cell? w2 _ hci)).trans hci
              clear hb2 hc hci
              obtain ⟨y, hy⟩ : ∃ y, hs.getD i 0 = y := ⟨_, rfl⟩
              rw [hy] at hci3
              by_cases hyn : y = n
              · have heq : (((y : Nat) : Int) == ((n : Nat) : Int)) = true := by rw [hyn]; simp
                have HO : Hid (getO l = none) := Lib.hid (getO_stop HPX.out (by
                  rw [goG_snoc, HG.out, step_some, if_pos]
                  rw [← HM.out, ← hyn, ← hy]
                  simp [List.getD, List.getElem?_eq_getElem hlt]))
                clear hy hyn
                go_wp2_with fail
                go_quiet (fail)
                have HS4 := Lib.hid (HS3.out.keep (below_drewN (Below.refl wr.heap.size wr) nq))
                obtain ⟨z0, z1, z2, z3, z4, z5, z6, z7, z8, z9, z10, z11⟩ := rzcells HS4.out.bn
                have f0 := HS4.out.bn.fz
                go_wp2
                refine bodyPost_ret (v := .tuple #[pv zeroP, .int .i64 50]) (by
                  change Sem.run Tryd.prog (results _ _) (rst W0.heap.size zeroP (wr.drewN nq)) = Result.ok _ (rst W0.heap.size zeroP (wr.drewN nq))
                  have e := rst_rbk HS4.out.bn zeroP
                  have y0 := e.cell0
                  have y1 := e.cell1
                  have y2 := e.cell2
                  have y3 := e.cell3
                  have y4 := e.cell4
                  have y5 := e.cell5
                  have y6 := e.cell6
                  have y7 := e.cell7
                  have y8 := e.cell8
                  have y9 := e.cell9
                  have y10 := e.cell10
                  have y11 := e.cell11
                  generalize (rst W0.heap.size zeroP (wr.drewN nq)) = X at y0 y1 y2 y3 y4 y5 y6 y7 y8 y9 y10 y11 ⊢
                  simp [results, Tryd.results12, go_sem, pv, y0, y1, y2, y3, y4, y5, y6, y7, y8, y9, y10, y11]) rfl ⟨?_, ?_⟩
                · rw [getP_no HO.out, getE_no HO.out]
                · exact HS4.out.bel.trans ((rst_only W0.heap.size zeroP (wr.drewN nq)).below HS4.out.bel.size (fun k hk => by omega))
              · have heq : (((y : Nat) : Int) == ((n : Nat) : Int)) = false := by rw [beq_eq_false_iff_ne]; omega
                have HNO2 : Hid (∀ j, j < i + 1 → hs.getD j 0 ≠ n) := Lib.hid (fun j hj => by
                  rcases Nat.lt_or_ge j i with h | h
                  · exact HNO.out j h
                  · have : j = i := by omega
                    subst this
                    rw [hy]; exact hyn)
                clear hy hyn
                go_wp2_with fail
                go_quiet (fail)
                go_wp2
                go_roundw
                case rel => exact ⟨i + 1, by omega, by go_num, HNO2.out, below_drewN HB23.out nq⟩
                case measure => simp [intOf]; omega
            · obtain rfl : i = hs.length := by omega
              have HNM : Hid (n ∉ cs) := Lib.hid (fun h => by
                rw [← HM.out] at h
                obtain ⟨j, hj, rfl⟩ := List.getElem_of_mem h
                exact HNO.out j hj (by simp [List.getD, List.getElem?_eq_getElem hj]))
              have hln2 : hs.length ≤ 4000 := by omega
              have hown1 := HS3.out.own
              have hsz3 := HS3.out.sz
              clear hb2
              go_wp2_with (at_builtin; refine wpList_append_own _ rfl _ _ 63 rfl (w1.heap.size + 1) 22 i0 (.int .u64 0) 1 8 Tryd.underlying63 hi.out hz0.out hz1.out hz2.out rfl (by decide) _ _ _ rfl (hown1.alloc _) ⟨wr.heap.size, 0, none⟩ 1 1 [.int .u64 (n : Int)] rfl rfl ?c1 ?c2 ?c3 ?c4 ?c5 ?_)
              case c1 =>
                intro j u hj
                match j, hj with
                | 0, hj => simp at hj; subst hj; simp [Addr.add]
              case c2 => intro u hu; simp at hu; subst hu; rfl
              case c3 => unfold maxLen; omega
              case c4 => omega
              case c5 => simp; omega
              intro v' w4 hown' hgrow _
              have HT4 : Hid (RT W0 w1.heap.size g p n k v' (hs ++ [n]) w4) := Lib.hid (RT.append HS3.out hown' hgrow (by omega))
              have hk2 : k ≤ rr.length := by omega
              obtain ⟨x, Ex⟩ : ∃ x, rr.take k = x := ⟨_, rfl⟩
              obtain ⟨t, Et⟩ : ∃ t, rr.drop k = t := ⟨_, rfl⟩
              have X1 := bs_to rr k
              have X2 := bs_from rr k
              have hcl := (cutO_len HC.out).1
              rw [Ex] at X1
              rw [Et] at X2
              rw [Ex, Et] at HPX hcl
              have hxl : x.length ≤ 4000 := by omega
              have hPg : w1.heap.size < g := by have := HT4.out.gp; omega
              clear hown1 hown' hgrow hsz3 c03 Ex Et HCL HNO HS3 HB23 HS
              have hc0 := HT4.out.c0
              have hc1 := HT4.out.c1
              cases his : rvB n with
              | true =>
                have hnum := num_yes his p x
                have hn2b : (((n : Nat) : Int) == 2) = false := beq_eq_false_iff_ne.2 (by have := hnum.1; omega)
                have CV := Lib.hid (fun W0 => rvalue_any p n W0)
                have CSet := Lib.hid (fun W0 => rset_any p n his ((gN x : Nat) : Int) W0)
                rw [his] at CV
                obtain ⟨q, Eq⟩ : ∃ q, setF p n ((gN x : Nat) : Int) = q := ⟨_, rfl⟩
                rw [Eq] at CSet
                unfold pv at CSet
                have HQ : Hid (tkP p n x = q) := Lib.hid (by rw [hnum.2.2, Eq])
                have HTB := Lib.hid hnum.2.1
                have HWQ : Hid (Wf q) := Lib.hid (by rw [← HQ.out]; exact tkP_wf HW.out n x (by omega))
                obtain ⟨vx, Ev⟩ : ∃ v, rvN p n = v := ⟨_, rfl⟩
                rw [Ev] at CV
                clear hnum his Eq Ev
                go_wp2_with fail
                refine wp_region_noPanic ?_
                refine wp_region_held_drew (S := RT W0 w1.heap.size g p n k v' (hs ++ [n])) (by kernel_rfl) ?_ (fun hHeld => ?_)
                · exact HT4.out.keep ⟨rfl, rfl, rfl, Nat.le_refl _, fun _ _ => rfl⟩
                refine wpAnyH_take (i := 0) (v := ?_) rfl (by kernel_rfl) (by kernel_rfl) (by kernel_rfl) (fun _ _ _ h => h) (Or.inl ⟨by rfl, ?_⟩) (by assumption) ?_
                rotate_left
                · (intro W0 hSw; have z0 := hSw.bp.cell0; have z1 := hSw.bp.cell1; have z2 := hSw.bp.cell2; have z3 := hSw.bp.cell3; have z4 := hSw.bp.cell4; have z5 := hSw.bp.cell5; have z6 := hSw.bp.cell6; have z7 := hSw.bp.cell7; have z8 := hSw.bp.cell8; have z9 := hSw.bp.cell9; have z10 := hSw.bp.cell10; have z11 := hSw.bp.cell11; clear hSw; go_simp; (try with_reducible rfl))
                try simp only [Act.put, List.getElem_toArray, List.getElem_cons_zero, List.getElem_cons_succ, List.setIfInBounds_toArray, List.set_cons_zero, List.set_cons_succ]
                refine wpAnyH_take (i := 1) (v := ?_) rfl (by kernel_rfl) (by kernel_rfl) (by kernel_rfl) (fun _ _ _ h => h) (Or.inl ⟨by rfl, ?_⟩) (by assumption) ?_
                rotate_left
                · (intro W0 hSw; clear hSw; go_simp; (try with_reducible rfl))
                try simp only [Act.put, List.getElem_toArray, List.getElem_cons_zero, List.getElem_cons_succ, List.setIfInBounds_toArray, List.set_cons_zero, List.set_cons_succ]
                refine wpAnyH_take (i := 2) (v := ?_) rfl (by kernel_rfl) (by kernel_rfl) (by kernel_rfl) (fun _ _ _ h => h) (Or.inl ⟨by rfl, ?_⟩) (by assumption) ?_
                rotate_left
                · (intro W0 hSw; clear hSw; go_simp; (try with_reducible rfl))
                try simp only [Act.put, List.getElem_toArray, List.getElem_cons_zero, List.getElem_cons_succ, List.setIfInBounds_toArray, List.set_cons_zero, List.set_cons_succ]
                refine wpAnyH_take (i := 3) (v := ?_) rfl (by kernel_rfl) (by kernel_rfl) (by kernel_rfl) (fun _ _ _ h => h) (Or.inl ⟨by rfl, ?_⟩) (by assumption) ?_
                rotate_left
                · (intro W0 hSw; have z := hSw.c0; clear hSw; go_simp; (try with_reducible rfl))
                try simp only [Act.put, List.getElem_toArray, List.getElem_cons_zero, List.getElem_cons_succ, List.setIfInBounds_toArray, List.set_cons_zero, List.set_cons_succ]
                refine wpAnyH_ready (rs := [4]) (by kernel_rfl) (by simp) ?_
                refine AllReadyH.cons rfl (fun K hK => ?_) AllReadyH.nil
                rw [if_pos (by rfl)]
                go_simp
                refine (CV.out _).mono ?_
                rintro e b2 ⟨rfl, hb⟩
                refine hK.out _ _ ?_ (fun hHeld => ?_)
                · exact hHeld.keep hb
                clear hK K
                try simp only [Act.put, List.getElem_toArray, List.getElem_cons_zero, List.getElem_cons_succ, List.setIfInBounds_toArray, List.set_cons_zero, List.set_cons_succ]
                refine wpAnyH_take (i := 5) (v := ?_) rfl (by kernel_rfl) (by kernel_rfl) (by kernel_rfl) (fun _ _ _ h => h) (Or.inl ⟨by rfl, ?_⟩) (by assumption) ?_
                rotate_left
                · (intro W0 hSw; clear hSw; go_simp; (try with_reducible rfl))
                try simp only [Act.put, List.getElem_toArray, List.getElem_cons_zero, List.getElem_cons_succ, List.setIfInBounds_toArray, List.set_cons_zero, List.set_cons_succ]
                refine wpAnyH_take (i := 6) (v := ?_) rfl (by kernel_rfl) (by kernel_rfl) (by kernel_rfl) (fun _ _ _ h => h) (Or.inl ⟨by rfl, ?_⟩) (by assumption) ?_
                rotate_left
                · (intro W0 hSw; clear hSw; go_simp; (try with_reducible rfl))
                try simp only [Act.put, List.getElem_toArray, List.getElem_cons_zero, List.getElem_cons_succ, List.setIfInBounds_toArray, List.set_cons_zero, List.set_cons_succ]
                refine wpAnyH_take (i := 7) (v := ?_) rfl (by kernel_rfl) (by kernel_rfl) (by kernel_rfl) (fun _ _ _ h => h) (Or.inl ⟨by rfl, ?_⟩) (by assumption) ?_
                rotate_left
                · (intro W0 hSw; clear hSw; go_simp; (try with_reducible rfl))
                try simp only [Act.put, List.getElem_toArray, List.getElem_cons_zero, List.getElem_cons_succ, List.setIfInBounds_toArray, List.set_cons_zero, List.set_cons_succ]
                refine wpAnyH_take (i := 8) (v := ?_) rfl (by kernel_rfl) (by kernel_rfl) (by kernel_rfl) (fun _ _ _ h => h) (Or.inl ⟨by rfl, ?_⟩) (by assumption) ?_
                rotate_left
                · (intro W0 hSw; clear hSw; go_simp; (try with_reducible rfl))
                try simp only [Act.put, List.getElem_toArray, List.getElem_cons_zero, List.getElem_cons_succ, List.setIfInBounds_toArray, List.set_cons_zero, List.set_cons_succ]
                refine wpAnyH_take (i := 9) (v := ?_) rfl (by kernel_rfl) (by kernel_rfl) (by kernel_rfl) (fun _ _ _ h => h) (Or.inl ⟨by rfl, ?_⟩) (by assumption) ?_
                rotate_left
                · (intro W0 hSw; clear hSw; go_simp; (try with_reducible rfl))
                try simp only [Act.put, List.getElem_toArray, List.getElem_cons_zero, List.getElem_cons_succ, List.setIfInBounds_toArray, List.set_cons_zero, List.set_cons_succ]
                refine wpAnyH_done (by kernel_rfl) (NoPanic.normal ?_) _
                have HT5 := Lib.hid hHeld
                clear hHeld
                all_goals
                  have hd0 := HT5.out.c0
                  have hd1 := HT5.out.c1
                  by_cases hgk : gk x ≤ x.length
                  · have hok := g_ok hgk
                    by_cases hR : gR x = []
                    · have CR : Hid (∀ W0, Calls Tryd.prog 26 #[.string ⟨x.toArray⟩] W0 fun e w' => e = .returned (.tuple #[.int .u64 ((gN x : Nat) : Int), .string ⟨#[]⟩, .int .i64 0]) ∧ Below W0.heap.size W0 w') := Lib.hid (fun W0 => (rget ⟨x.toArray⟩ W0 (by rw [size_len]; show x.length ≤ _; omega)).mono fun e w' h => by
                        obtain ⟨h, m, rfl⟩ := h
                        rw [show (⟨x.toArray⟩ : ByteArray).data.toList = x from rfl, hok.2.2, hR] at h
                        exact ⟨h, below_drewN (Below.refl _ _) m⟩)
                      have HGN : Hid (goG (pre ++ [some (n, x)]) = some (q, n :: cs)) := Lib.hid (by
                        rw [goG_snoc, HG.out, step_some, if_neg HNM.out, HTB.out, decide_eq_true hgk, hR, HQ.out]; rfl)
                      clear hgk hR hok
                      go_wp2_with fail
                      refine (CR.out _).mono ?_
                      rintro e w6 ⟨rfl, hb⟩
                      have HT6 := Lib.hid (HT5.out.keep hb)
                      have he0 := HT6.out.c0
                      clear hb hd0 hd1
                      have p0 := HT6.out.bp.cell0
                      have p1 := HT6.out.bp.cell1
                      have p2 := HT6.out.bp.cell2
                      have p3 := HT6.out.bp.cell3
                      have p4 := HT6.out.bp.cell4
                      have p5 := HT6.out.bp.cell5
                      have p6 := HT6.out.bp.cell6
                      have p7 := HT6.out.bp.cell7
                      have p8 := HT6.out.bp.cell8
                      have p9 := HT6.out.bp.cell9
                      have p10 := HT6.out.bp.cell10
                      have p11 := HT6.out.bp.cell11
                      go_wp2_with fail
                      go_region_with ((go_at_call 27; (with_reducible refine (CSet.out _).mono ?_); rintro e a3 ⟨rfl, hb3⟩; have HT7 := Lib.hid (HT6.out.keep ((below_drewN (Below.refl w6.heap.size w6) 1).trans hb3)); clear hb3 p0 p1 p2 p3 p4 p5 p6 p7 p8 p9 p10 p11; have q0 := HT7.out.bp.cell0; have q1 := HT7.out.bp.cell1; have q2 := HT7.out.bp.cell2; have q3 := HT7.out.bp.cell3; have q4 := HT7.out.bp.cell4; have q5 := HT7.out.bp.cell5; have q6 := HT7.out.bp.cell6; have q7 := HT7.out.bp.cell7; have q8 := HT7.out.bp.cell8; have q9 := HT7.out.bp.cell9; have q10 := HT7.out.bp.cell10; have q11 := HT7.out.bp.cell11; have f7 := HT7.out.bp.fz; have hh0 := HT7.out.c0))
                      all_goals
                        have HTF : Hid (RT W0 w1.heap.size g q n k v' (hs ++ [n]) (rst w1.heap.size q a3)) := Lib.hid (HT7.out.turn (rst_only _ _ _) (rst_rbk HT7.out.bp q))
                        have HAR : Hid (t.length ≤ 4000 ∧ hs.length ≤ pre.length ∧ t.length < r.length) := Lib.hid ⟨by omega, hln, by omega⟩
                        try simp only [Act.put, List.getElem_toArray, List.getElem_cons_zero, List.getElem_cons_succ, List.setIfInBounds_toArray, List.set_cons_zero, List.set_cons_succ]
                        clear hn hk hc0 hc1 he0 X1 X2 hk2 hr hln hsz hplen he hwr hrr hf hge hi' hlt hln2 hl hs1 hrl hcl hxl
                        go_wp2
                        go_roundw
                        case rel => exact ⟨pre ++ [some (n, x)], t, q, n :: cs, hs ++ [n], rfl, HAR.out.1, by rw [HPX.out]; simp, HGN.out, mem_snoc HM.out, by have := HAR.out.2.1; simp only [List.length_append, List.length_cons, List.length_nil]; omega, HWQ.out, HTF.out.bp, HTF.out.bn, HTF.out.own, HTF.out.bel, HTF.out.sz⟩
                        case measure =>
                          exact HAR.out.2.2
                    · have CR : Hid (∀ W0, Calls Tryd.prog 26 #[.string ⟨x.toArray⟩] W0 fun e w' => e = .returned (.tuple #[.int .u64 ((gN x : Nat) : Int), .string ⟨(gR x).toArray⟩, .int .i64 0]) ∧ Below W0.heap.size W0 w') := Lib.hid (fun W0 => (rget ⟨x.toArray⟩ W0 (by rw [size_len]; show x.length ≤ _; omega)).mono fun e w' h => by
                        obtain ⟨h, m, rfl⟩ := h
                        rw [show (⟨x.toArray⟩ : ByteArray).data.toList = x from rfl, hok.2.2] at h
                        exact ⟨h, below_drewN (Below.refl _ _) m⟩)
                      have he2 : (!(gR x).isEmpty) = true := by cases hh : gR x with | nil => exact absurd hh hR | cons b t => rfl
                      have HO : Hid (getO l = none) := Lib.hid (getO_stop HPX.out (by
                        rw [goG_snoc, HG.out, step_some, if_neg HNM.out, HTB.out, decide_eq_true hgk, if_neg]
                        intro h
                        simp at h
                        exact hR h))
                      clear hgk hR hok
                      go_wp2_with fail
                      refine (CR.out _).mono ?_
                      rintro e w6 ⟨rfl, hb⟩
                      have HT6 := Lib.hid (HT5.out.keep hb)
                      clear hb hd0 hd1
                      obtain ⟨z0, z1, z2, z3, z4, z5, z6, z7, z8, z9, z10, z11⟩ := rzcells HT6.out.bn
                      have f0 := HT6.out.bn.fz
                      go_wp2
                      refine bodyPost_ret (v := .tuple #[pv zeroP, .int .i64 50]) (by
                        change Sem.run Tryd.prog (results _ _) (rst W0.heap.size zeroP w6) = Result.ok _ (rst W0.heap.size zeroP w6)
                        have e := rst_rbk HT6.out.bn zeroP
                        have y0 := e.cell0
                        have y1 := e.cell1
                        have y2 := e.cell2
                        have y3 := e.cell3
                        have y4 := e.cell4
                        have y5 := e.cell5
                        have y6 := e.cell6
                        have y7 := e.cell7
                        have y8 := e.cell8
                        have y9 := e.cell9
                        have y10 := e.cell10
                        have y11 := e.cell11
                        generalize (rst W0.heap.size zeroP w6) = X at y0 y1 y2 y3 y4 y5 y6 y7 y8 y9 y10 y11 ⊢
                        simp [results, Tryd.results12, go_sem, pv, y0, y1, y2, y3, y4, y5, y6, y7, y8, y9, y10, y11]) rfl ⟨?_, ?_⟩
                      · rw [getP_no HO.out, getE_no HO.out]
                      · exact HT6.out.bel.trans ((rst_only W0.heap.size zeroP w6).below HT6.out.bel.size (fun k hk => by omega))
                  · have hno := g_no (l := x) (by omega)
                    have CR : Hid (∀ W0, Calls Tryd.prog 26 #[.string ⟨x.toArray⟩] W0 fun e w' => e = .returned (.tuple #[.int .u64 0, .string ⟨#[]⟩, .int .i64 10]) ∧ Below W0.heap.size W0 w') := Lib.hid (fun W0 => (rget ⟨x.toArray⟩ W0 (by rw [size_len]; show x.length ≤ _; omega)).mono fun e w' h => by
                        obtain ⟨h, m, rfl⟩ := h
                        rw [show (⟨x.toArray⟩ : ByteArray).data.toList = x from rfl, hno.1, hno.2.1, hno.2.2] at h
                        exact ⟨h, below_drewN (Below.refl _ _) m⟩)
                    have HO : Hid (getO l = none) := Lib.hid (getO_stop HPX.out (by
                        rw [goG_snoc, HG.out, step_some, if_neg HNM.out, HTB.out, decide_eq_false hgk]; rfl))
                    clear hgk hno
                    go_wp2_with fail
                    refine (CR.out _).mono ?_
                    rintro e w6 ⟨rfl, hb⟩
                    have HT6 := Lib.hid (HT5.out.keep hb)
                    clear hb hd0 hd1
                    obtain ⟨z0, z1, z2, z3, z4, z5, z6, z7, z8, z9, z10, z11⟩ := rzcells HT6.out.bn
                    have f0 := HT6.out.bn.fz
                    go_wp2
                    refine bodyPost_ret (v := .tuple #[pv zeroP, .int .i64 50]) (by
                      change Sem.run Tryd.prog (results _ _) (rst W0.heap.size zeroP w6) = Result.ok _ (rst W0.heap.size zeroP w6)
                      have e := rst_rbk HT6.out.bn zeroP
                      have y0 := e.cell0
                      have y1 := e.cell1
                      have y2 := e.cell2
                      have y3 := e.cell3
                      have y4 := e.cell4
                      have y5 := e.cell5
                      have y6 := e.cell6
                      have y7 := e.cell7
                      have y8 := e.cell8
                      have y9 := e.cell9
                      have y10 := e.cell10
                      have y11 := e.cell11
                      generalize (rst W0.heap.size zeroP w6) = X at y0 y1 y2 y3 y4 y5 y6 y7 y8 y9 y10 y11 ⊢
                      simp [results, Tryd.results12, go_sem, pv, y0, y1, y2, y3, y4, y5, y6, y7, y8, y9, y10, y11]) rfl ⟨?_, ?_⟩
                    · rw [getP_no HO.out, getE_no HO.out]
                    · exact HT6.out.bel.trans ((rst_only W0.heap.size zeroP w6).below HT6.out.bel.size (fun k hk => by omega))
              | false =>
                have CV := Lib.hid (fun W0 => rvalue_any p n W0)
                rw [his] at CV
                obtain ⟨vx, Ev⟩ : ∃ v, rvN p n = v := ⟨_, rfl⟩
                rw [Ev] at CV
                have HIS := Lib.hid his
                clear his Ev
                go_wp2_with fail
                refine wp_region_noPanic ?_
                refine wp_region_held_drew (S := RT W0 w1.heap.size g p n k v' (hs ++ [n])) (by kernel_rfl) ?_ (fun hHeld => ?_)
                · exact HT4.out.keep ⟨rfl, rfl, rfl, Nat.le_refl _, fun _ _ => rfl⟩
                refine wpAnyH_take (i := 0) (v := ?_) rfl (by kernel_rfl) (by kernel_rfl) (by kernel_rfl) (fun _ _ _ h => h) (Or.inl ⟨by rfl, ?_⟩) (by assumption) ?_
                rotate_left
                · (intro W0 hSw; have z0 := hSw.bp.cell0; have z1 := hSw.bp.cell1; have z2 := hSw.bp.cell2; have z3 := hSw.bp.cell3; have z4 := hSw.bp.cell4; have z5 := hSw.bp.cell5; have z6 := hSw.bp.cell6; have z7 := hSw.bp.cell7; have z8 := hSw.bp.cell8; have z9 := hSw.bp.cell9; have z10 := hSw.bp.cell10; have z11 := hSw.bp.cell11; clear hSw; go_simp; (try with_reducible rfl))
                try simp only [Act.put, List.getElem_toArray, List.getElem_cons_zero, List.getElem_cons_succ, List.setIfInBounds_toArray, List.set_cons_zero, List.set_cons_succ]
                refine wpAnyH_take (i := 1) (v := ?_) rfl (by kernel_rfl) (by kernel_rfl) (by kernel_rfl) (fun _ _ _ h => h) (Or.inl ⟨by rfl, ?_⟩) (by assumption) ?_
                rotate_left
                · (intro W0 hSw; clear hSw; go_simp; (try with_reducible rfl))
                try simp only [Act.put, List.getElem_toArray, List.getElem_cons_zero, List.getElem_cons_succ, List.setIfInBounds_toArray, List.set_cons_zero, List.set_cons_succ]
                refine wpAnyH_take (i := 2) (v := ?_) rfl (by kernel_rfl) (by kernel_rfl) (by kernel_rfl) (fun _ _ _ h => h) (Or.inl ⟨by rfl, ?_⟩) (by assumption) ?_
                rotate_left
                · (intro W0 hSw; clear hSw; go_simp; (try with_reducible rfl))
                try simp only [Act.put, List.getElem_toArray, List.getElem_cons_zero, List.getElem_cons_succ, List.setIfInBounds_toArray, List.set_cons_zero, List.set_cons_succ]
                refine wpAnyH_take (i := 3) (v := ?_) rfl (by kernel_rfl) (by kernel_rfl) (by kernel_rfl) (fun _ _ _ h => h) (Or.inl ⟨by rfl, ?_⟩) (by assumption) ?_
                rotate_left
                · (intro W0 hSw; have z := hSw.c0; clear hSw; go_simp; (try with_reducible rfl))
                try simp only [Act.put, List.getElem_toArray, List.getElem_cons_zero, List.getElem_cons_succ, List.setIfInBounds_toArray, List.set_cons_zero, List.set_cons_succ]
                refine wpAnyH_ready (rs := [4]) (by kernel_rfl) (by simp) ?_
                refine AllReadyH.cons rfl (fun K hK => ?_) AllReadyH.nil
                rw [if_pos (by rfl)]
                go_simp
                refine (CV.out _).mono ?_
                rintro e b2 ⟨rfl, hb⟩
                refine hK.out _ _ ?_ (fun hHeld => ?_)
                · exact hHeld.keep hb
                clear hK K
                try simp only [Act.put, List.getElem_toArray, List.getElem_cons_zero, List.getElem_cons_succ, List.setIfInBounds_toArray, List.set_cons_zero, List.set_cons_succ]
                refine wpAnyH_take (i := 5) (v := ?_) rfl (by kernel_rfl) (by kernel_rfl) (by kernel_rfl) (fun _ _ _ h => h) (Or.inl ⟨by rfl, ?_⟩) (by assumption) ?_
                rotate_left
                · (intro W0 hSw; clear hSw; go_simp; (try with_reducible rfl))
                try simp only [Act.put, List.getElem_toArray, List.getElem_cons_zero, List.getElem_cons_succ, List.setIfInBounds_toArray, List.set_cons_zero, List.set_cons_succ]
                refine wpAnyH_take (i := 6) (v := ?_) rfl (by kernel_rfl) (by kernel_rfl) (by kernel_rfl) (fun _ _ _ h => h) (Or.inl ⟨by rfl, ?_⟩) (by assumption) ?_
                rotate_left
                · (intro W0 hSw; clear hSw; go_simp; (try with_reducible rfl))
                try simp only [Act.put, List.getElem_toArray, List.getElem_cons_zero, List.getElem_cons_succ, List.setIfInBounds_toArray, List.set_cons_zero, List.set_cons_succ]
                refine wpAnyH_take (i := 7) (v := ?_) rfl (by kernel_rfl) (by kernel_rfl) (by kernel_rfl) (fun _ _ _ h => h) (Or.inl ⟨by rfl, ?_⟩) (by assumption) ?_
                rotate_left
                · (intro W0 hSw; clear hSw; go_simp; (try with_reducible rfl))
                try simp only [Act.put, List.getElem_toArray, List.getElem_cons_zero, List.getElem_cons_succ, List.setIfInBounds_toArray, List.set_cons_zero, List.set_cons_succ]
                refine wpAnyH_take (i := 8) (v := ?_) rfl (by kernel_rfl) (by kernel_rfl) (by kernel_rfl) (fun _ _ _ h => h) (Or.inl ⟨by rfl, ?_⟩) (by assumption) ?_
                rotate_left
                · (intro W0 hSw; clear hSw; go_simp; (try with_reducible rfl))
                try simp only [Act.put, List.getElem_toArray, List.getElem_cons_zero, List.getElem_cons_succ, List.setIfInBounds_toArray, List.set_cons_zero, List.set_cons_succ]
                refine wpAnyH_take (i := 9) (v := ?_) rfl (by kernel_rfl) (by kernel_rfl) (by kernel_rfl) (fun _ _ _ h => h) (Or.inl ⟨by rfl, ?_⟩) (by assumption) ?_
                rotate_left
                · (intro W0 hSw; clear hSw; go_simp; (try with_reducible rfl))
                try simp only [Act.put, List.getElem_toArray, List.getElem_cons_zero, List.getElem_cons_succ, List.setIfInBounds_toArray, List.set_cons_zero, List.set_cons_succ]
                refine wpAnyH_done (by kernel_rfl) (NoPanic.normal ?_) _
                have HT5 := Lib.hid hHeld
                clear hHeld
                all_goals
                  have hd0 := HT5.out.c0
                  have hd1 := HT5.out.c1
                  by_cases h2 : n = 2
                  · have hn2b : (((n : Nat) : Int) == 2) = true := by rw [h2]; rfl
                    by_cases h16 : x.length = 16
                    · have hb16 : (((x.length : Nat) : Int) != 16) = false := by rw [h16]; rfl
                      have HGN : Hid (goG (pre ++ [some (n, x)]) = some ({ p with tok := x }, n :: cs)) := Lib.hid (by
                        rw [goG_snoc, HG.out, step_some, if_neg HNM.out, h2, if_pos (show tkB p 2 x = true from decide_eq_true h16)]; rfl)
                      have HWQ : Hid (Wf { p with tok := x }) := Lib.hid ⟨HW.out.idle, HW.out.size, HW.out.data, HW.out.bl, HW.out.br, HW.out.uni, HW.out.bidis, HW.out.unis, HW.out.expo, HW.out.delay, HW.out.ids, by show x.length ≤ _; omega⟩
                      have HTF : Hid (RT W0 w1.heap.size g { p with tok := x } n k v' (hs ++ [n]) (b2.setCell ⟨w1.heap.size, 11, none⟩ (.string ⟨x.toArray⟩))) := Lib.hid (HT5.out.turn (It.Only.setCell (O := fun k => k = w1.heap.size) rfl _ _) (HT5.out.bp.set11 x))
                      have p11 := HT5.out.bp.cell11
                      have pf := HT5.out.bp.fz
                      have HAR : Hid (t.length ≤ 4000 ∧ hs.length ≤ pre.length ∧ t.length < r.length) := Lib.hid ⟨by omega, hln, by omega⟩
                      clear h2 h16 hn hk hc0 hc1 X1 X2 hk2 hr hln hsz hplen he hwr hrr hf hge hi' hlt hln2 hl hs1 hrl hcl hxl
                      go_wp2
                      go_roundw
                      case rel => exact ⟨pre ++ [some (n, x)], t, { p with tok := x }, n :: cs, hs ++ [n], rfl, HAR.out.1, by rw [HPX.out]; simp, HGN.out, mem_snoc HM.out, by have := HAR.out.2.1; simp only [List.length_append, List.length_cons, List.length_nil]; omega, HWQ.out, HTF.out.bp, HTF.out.bn, HTF.out.own, HTF.out.bel, HTF.out.sz⟩
                      case measure =>
                        exact HAR.out.2.2
                    · have hb16 : (((x.length : Nat) : Int) != 16) = true := by rw [bne_iff_ne]; omega
                      have HO : Hid (getO l = none) := Lib.hid (getO_stop HPX.out (by
                        rw [goG_snoc, HG.out, step_some, if_neg HNM.out, h2, if_neg (show ¬ tkB p 2 x = true from fun h => h16 (of_decide_eq_true h))]))
                      clear h2 h16
                      obtain ⟨z0, z1, z2, z3, z4, z5, z6, z7, z8, z9, z10, z11⟩ := rzcells HT5.out.bn
                      have f0 := HT5.out.bn.fz
                      go_wp2
                      refine bodyPost_ret (v := .tuple #[pv zeroP, .int .i64 50]) (by
                        change Sem.run Tryd.prog (results _ _) (rst W0.heap.size zeroP b2) = Result.ok _ (rst W0.heap.size zeroP b2)
                        have e := rst_rbk HT5.out.bn zeroP
                        have y0 := e.cell0
                        have y1 := e.cell1
                        have y2 := e.cell2
                        have y3 := e.cell3
                        have y4 := e.cell4
                        have y5 := e.cell5
                        have y6 := e.cell6
                        have y7 := e.cell7
                        have y8 := e.cell8
                        have y9 := e.cell9
                        have y10 := e.cell10
                        have y11 := e.cell11
                        generalize (rst W0.heap.size zeroP b2) = X at y0 y1 y2 y3 y4 y5 y6 y7 y8 y9 y10 y11 ⊢
                        simp [results, Tryd.results12, go_sem, pv, y0, y1, y2, y3, y4, y5, y6, y7, y8, y9, y10, y11]) rfl ⟨?_, ?_⟩
                      · rw [getP_no HO.out, getE_no HO.out]
                      · exact HT5.out.bel.trans ((rst_only W0.heap.size zeroP b2).below HT5.out.bel.size (fun k hk => by omega))
                  · have hn2b : (((n : Nat) : Int) == 2) = false := beq_eq_false_iff_ne.2 (by omega)
                    have hnn := num_no HIS.out h2 p x
                    have HGN : Hid (goG (pre ++ [some (n, x)]) = some (p, n :: cs)) := Lib.hid (by
                      rw [goG_snoc, HG.out, step_some, if_neg HNM.out, if_pos hnn.1, hnn.2])
                    have HAR : Hid (t.length ≤ 4000 ∧ hs.length ≤ pre.length ∧ t.length < r.length) := Lib.hid ⟨by omega, hln, by omega⟩
                    clear h2 hnn hn hk hc0 hc1 X1 X2 hk2 hr hln hsz hplen he hwr hrr hf hge hi' hlt hln2 hl hs1 hrl hcl hxl
                    go_wp2
                    go_roundw
                    case rel => exact ⟨pre ++ [some (n, x)], t, p, n :: cs, hs ++ [n], rfl, HAR.out.1, by rw [HPX.out]; simp, HGN.out, mem_snoc HM.out, by have := HAR.out.2.1; simp only [List.length_append, List.length_cons, List.length_nil]; omega, HW.out, HT5.out.bp, HT5.out.bn, HT5.out.own, HT5.out.bel, HT5.out.sz⟩
                    case measure =>
                      exact HAR.out.2.2
end Go.Proofs.YthhcpedaldlccaaDoor.Pm
