/- What the row's condition gives the walks of layer 5: both tables. -/
import Derived.Test.YthhcpedaldlccaaDoorPmB
import Derived.Test.YthhcpedaldlccaaDoorVmLaid
import Derived.LaidMore
import Derived.Lib.LaidTab
import Derived.ProofKit
namespace Go.Proofs.YthhcpedaldlccaaDoor.Pm
open Go.RowKit Vm
set_option linter.unusedVariables false

section
variable {H : Type} {enc : TypeId × Value → H} {P : Program} {w : World} {base : Nat} {sp : Nat → Bool} {held : Bool}
/-- Cells that read as a struct of two integers. -/
theorem pair_trod {fuel : Nat} {e : TypeId} {f0 f1 : Field} {k : IntKind} (he : P.underlying e = some (.struct #[f0, f1])) (h0 : f0.offset = 0) (h1 : f1.offset = 1) (t0 : P.underlying f0.type = some (.int k)) (t1 : P.underlying f1.type = some (.int k)) (c0 : P.cellsOf f0.type = 1) (c1 : P.cellsOf f1.type = 1) (hc : P.cellsOf e = 2)
    {cs : List Value} {x y : Int} {p : List MemPlace} (h : DataW.trod enc P w base sp held fuel e cs = some (.agg [.lit (.int k x), .lit (.int k y)], p)) : cs = [.int k x, .int k y] := by
  cases fuel with
  | zero => simp [DataW.trod] at h
  | succ fuel =>
    simp only [DataW.trod, he, hc] at h
    split at h
    · rename_i hl
      match cs, hl with
      | [c, d], _ =>
        obtain ⟨xs, hm, hx⟩ := Option.map_eq_some_iff.1 h
        obtain ⟨b0, e0, g0⟩ := Lib.mapM_at hm 0 f0 (by simp)
        obtain ⟨b1, e1, g1⟩ := Lib.mapM_at hm 1 f1 (by simp)
        rw [h0, c0] at g0
        rw [h1, c1] at g1
        obtain ⟨z0, hc0, rfl, _⟩ := DataW.trod_int t0 g0
        obtain ⟨z1, hc1, rfl, _⟩ := DataW.trod_int t1 g1
        have hxl : xs.length = 2 := by simpa using Lib.mapM_length hm
        match xs, hxl, e0, e1, hx with
        | [u, v], _, e0, e1, hx =>
          simp only [List.getElem?_cons_zero, List.getElem?_cons_succ, Option.some.injEq] at e0 e1
          subst e0 e1
          simp only [List.map_cons, List.map_nil, Prod.mk.injEq, DataW.agg.injEq, List.cons.injEq, DataW.lit.injEq, Lit.int.injEq, true_and, and_true] at hx
          simp at hc0 hc1
          rw [hc0, hc1, hx.1.1, hx.1.2]
    · cases h
theorem pairs_trod {fuel : Nat} {t e : TypeId} {n : Nat} {k : IntKind} (ht : P.underlying t = some (.array n e)) (hct : P.cellsOf t = n * 2) (hce : P.cellsOf e = 2) {zs : List (Int × Int)} {cs : List Value} {p : List MemPlace}
    (he : ∀ (fuel : Nat) (cs : List Value) (x y : Int) (p : List MemPlace), DataW.trod enc P w base sp held fuel e cs = some (.agg [.lit (.int k x), .lit (.int k y)], p) → cs = [.int k x, .int k y])
    (h : DataW.trod enc P w base sp held fuel t cs = some (.agg (zs.map fun z => .agg [.lit (.int k z.1), .lit (.int k z.2)]), p)) (i : Nat) (hi : i < n) :
    ∃ z, zs[i]? = some z ∧ cs[2 * i]? = some (.int k z.1) ∧ cs[2 * i + 1]? = some (.int k z.2) := by
  cases fuel with
  | zero => simp [DataW.trod] at h
  | succ fuel =>
    simp only [DataW.trod, ht, hce, hct] at h
    split at h
    · rename_i hl
      obtain ⟨xs, hm, hx⟩ := Option.map_eq_some_iff.1 h
      have hxs : xs.map (·.1) = zs.map fun z => (.agg [.lit (.int k z.1), .lit (.int k z.2)] : DataW H) := by
        have := congrArg Prod.fst hx
        simpa using this
      obtain ⟨b, hb, hf⟩ := Lib.mapM_at hm i i (by simp [hi])
      have h2 : (xs.map (·.1))[i]? = some b.1 := by simp [hb]
      rw [hxs] at h2
      simp only [List.getElem?_map, Option.map_eq_some_iff] at h2
      obtain ⟨z, hz, hzb⟩ := h2
      have hc := he fuel _ z.1 z.2 b.2 (by rw [hf, hzb])
      refine ⟨z, hz, ?_, ?_⟩
      · have := congrArg (·[0]?) hc
        simpa [List.getElem?_take, List.getElem?_drop, Nat.mul_comm] using this
      · have := congrArg (·[1]?) hc
        simpa [List.getElem?_take, List.getElem?_drop, Nat.mul_comm] using this
    · cases h
end
/-- What the table of limits holds. -/
def Lim (w : World) : Prop := 0 < w.heap.size ∧ ∀ n, n < 15 → w.cell? ⟨0, 2 * n, none⟩ = some (.int .u64 (loN n)) ∧ w.cell? ⟨0, 2 * n + 1, none⟩ = some (.int .u64 (hiN n))
theorem gLimits : Tryd.prog.globalNamed "domino/params.limits" = some 0 := by kernel_rfl
theorem tLimits : (Tryd.prog.globals[0]?).map (·.type) = some 74 := by kernel_rfl
theorem cellsLim : Tryd.prog.cellsOf 73 = 2 := by kernel_rfl
theorem cellsLims : Tryd.prog.cellsOf 74 = 15 * 2 := by kernel_rfl
def limZ : List (Int × Int) := [(0, 0), (0, 4611686018427387903), (0, 0), (1200, 4611686018427387903), (0, 4611686018427387903), (0, 4611686018427387903), (0, 4611686018427387903), (0, 4611686018427387903), (0, 1152921504606846976), (0, 1152921504606846976), (0, 20), (0, 16383), (0, 0), (0, 0), (2, 4611686018427387903)]
theorem limZ_at (n : Nat) (h : n < 15) : limZ[n]? = some (loN n, hiN n) := by
  match n, h with
  | 0, _ | 1, _ | 2, _ | 3, _ | 4, _ | 5, _ | 6, _ | 7, _ | 8, _ | 9, _ | 10, _ | 11, _ | 12, _ | 13, _ | 14, _ => rfl
/-- Both tables. -/
theorem tabs_of {W : World} (h : laidMetH Tryd.prog [("domino/varint.lengths", Rows.laid_domino_varint_lengths), ("domino/params.limits", Rows.laid_domino_params_limits)] W) : Vm.Tab W ∧ Lim W := by
  rw [MakeChecks.laidMetH_plain _ _ _ (by kernel_rfl)] at h
  have h1 := Lib.tabIs_of_head (zs := [1, 2, 4, 8]) (k := .i64) gLengths tLengths Tryd.underlying87 Tryd.underlying3 cellsInt cellsArr h
  refine ⟨⟨h1.cell gLengths 0 (by decide), h1.cell gLengths 1 (by decide), h1.cell gLengths 2 (by decide), h1.cell gLengths 3 (by decide)⟩, ?_⟩
  obtain ⟨ps, ⟨g1, t1, cs1, f1, p1, q1, hg1, ht1, hvar1, hd1, ⟨g2, t2, cs2, f2, p2, q2, hg2, ht2, hvar2, hd2, _, _⟩, _⟩, _⟩ := h
  obtain rfl := Option.some.inj (gLimits.symm.trans hg2)
  obtain rfl := Option.some.inj (tLimits.symm.trans ht2)
  have hp := fun i (hi : i < 15) => pairs_trod (zs := limZ) (k := .u64) (e := 73) Tryd.underlying74 cellsLims cellsLim (fun fuel cs x y p h => pair_trod Tryd.underlying73 rfl rfl (Tryd.underlying22) (Tryd.underlying22) (by kernel_rfl) (by kernel_rfl) cellsLim h) hd2 i hi
  have hcell := fun i => World.var?_cell gLimits hvar2 i
  refine ⟨?_, fun n hn => ?_⟩
  · obtain ⟨z, _, h3, _⟩ := hp 0 (by decide)
    have h4 := hcell 0
    rcases Nat.lt_or_ge 0 W.heap.size with h5 | h5
    · exact h5
    · simp [World.cell?, Array.getElem?_eq_none h5] at h4
      simp [← h4] at h3
  · obtain ⟨z, h2, h3, h4⟩ := hp n hn
    rw [limZ_at n hn] at h2
    obtain rfl := (Option.some.inj h2).symm
    exact ⟨(hcell _).trans (by simpa using h3), (hcell _).trans (by simpa using h4)⟩
end Go.Proofs.YthhcpedaldlccaaDoor.Pm
