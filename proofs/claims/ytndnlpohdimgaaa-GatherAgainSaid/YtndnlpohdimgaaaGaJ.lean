/- Layer 14: rows of pieces, rows of numbers as arguments; what the laws share. By hand. -/
import Derived.Test.YtndnlpohdimgaaaGaI
import Derived.ProofKit
import Derived.WideShapes
import Derived.Deep.SlicePairs
import Derived.Deep.CutRange
namespace Go.Proofs.Ytndnlpohdimgaaa
set_option maxRecDepth 20000
/-- What a caller's slice of integers is. -/
def IsRow (k : IntKind) (w : World) (a : Option Addr) (len cap : Nat) (zs : List Int) : Prop :=
  (a = none ∧ len = 0 ∧ cap = 0 ∧ zs = []) ∨ ∃ ad, a = some ad ∧ len ≤ cap ∧ cap ≤ maxLen ∧ zs.length = cap ∧ (∀ i, i < zs.length → w.cell? (ad.add i) = some (.int k (zs.getD i 0))) ∧ ∀ n ∈ zs, (Lit.int k n).wf = true
end Go.Proofs.Ytndnlpohdimgaaa
namespace Go.Proofs.Ytndnlpohdimgaaa.Rg
set_option maxRecDepth 20000
open Go.RowKit Go.ChangeShapes Go.WideShapes Go.Deep
set_option linter.unusedVariables false
set_option linter.unusedSimpArgs false

/-- A row of numbers as an argument. -/
def RI (k : IntKind) (w : World) (a : Option Addr) (n c : Nat) (l : List Int) : Prop :=
  n ≤ c ∧ ∀ j, j < n → ∃ b o, a = some ⟨b, o, none⟩ ∧ (∀ W, Below w.heap.size w W → W.cell? ⟨b, o + j, none⟩ = some (.int k (l.getD j 0))) ∧ (Lit.int k (l.getD j 0)).wf = true
theorem ri_of {k : IntKind} {w : World} {a : Option Addr} {n c : Nat} {l : List Int} (h : IsRow k w a n c l) : RI k w a n c l := by
  rcases h with ⟨rfl, rfl, rfl, rfl⟩ | ⟨x, rfl, hl, hm, hz, hcell, hwz⟩
  · exact ⟨Nat.le_refl _, fun j hj => absurd hj (by omega)⟩
  · refine ⟨hl, fun j hj => ?_⟩
    obtain ⟨b, off, spot⟩ := x
    have hspot : spot = none := by simpa [Addr.add] using World.cell?_spot (hcell 0 (by omega))
    subst hspot
    have h1 := hcell j (by omega)
    rw [Go.WideShapes.add_plain] at h1
    have hb := block_lt_of_cell h1
    refine ⟨b, off, rfl, fun W hW => (hW.cell hb).trans h1, ?_⟩
    have hlt : j < l.length := by omega
    have := hwz (l[j]) (List.getElem_mem _)
    rw [List.getD_eq_getElem?_getD, List.getElem?_eq_getElem hlt]
    exact this
/-- A row of pieces as an argument. -/
def Pcs (w : World) (a : Option Addr) (n c : Nat) (l : List (Int × Int)) : Prop :=
  n ≤ c ∧ ∀ j, j < n → ∃ b o, a = some ⟨b, o, none⟩ ∧ (∀ W, Below w.heap.size w W → W.cell? ⟨b, o + j * 2, none⟩ = some (.int .u8 (l.getD j (0, 0)).1) ∧ W.cell? ⟨b, o + j * 2 + 1, none⟩ = some (.int .u8 (l.getD j (0, 0)).2)) ∧
    (0 ≤ (l.getD j (0, 0)).1 ∧ (l.getD j (0, 0)).1 ≤ 255) ∧ (0 ≤ (l.getD j (0, 0)).2 ∧ (l.getD j (0, 0)).2 ≤ 255)
theorem plain_addr {w : World} {a : Addr} {v : Value} (h : w.cell? a = some v) : a = ⟨a.block, a.off, none⟩ := by
  obtain ⟨b, o, s⟩ := a
  cases s with
  | none => rfl
  | some s =>
    unfold World.cell? at h
    simp only at h
    split at h
    · simp at h
    · cases h
theorem add_zeroG (a : Addr) : a.add (0 * 2) = a := by simp [Addr.add]
def numAt (w : World) (a : Addr) : Int := match w.cell? a with | some (.int _ n) => n | _ => 0
theorem pieces_of_trod {H : Type} {enc : TypeId × Value → H} {W : World} {held : Bool} {fuel : Nat} {t : TypeId} {a : Option Addr} {len cap : Nat} {x : DataW H × List MemPlace}
    (ht : Try.prog.underlying t = some (.slice 30)) (h : DataW.trod enc Try.prog W 0 (fun _ => true) held fuel t (Value.cells (.slice a len cap)).toList = some x) :
    ∃ l : List (Int × Int), l.length = len ∧ len ≤ maxLen ∧ Pcs W a len cap l := by
  rcases open_slice_pairs ht Try.underlying30 (by kernel_rfl) rfl rfl (by kernel_rfl) (by kernel_rfl) h with ⟨hcs, _⟩ | ⟨a', len', cap', m, n, V0, V1, D0, D1, P0, P1, hcs, hb, hl, hm, hmm, hx, hc⟩
  · simp [Value.cells] at hcs
    obtain ⟨rfl, rfl, rfl⟩ := hcs
    exact ⟨[], rfl, Nat.zero_le _, Nat.le_refl _, fun j hj => absurd hj (by omega)⟩
  · simp [Value.cells] at hcs
    obtain ⟨rfl, rfl, rfl⟩ := hcs
    have hml : len ≤ m := by rw [hmm]; simp; omega
    have hfact : ∀ i, i < len → (W.cell? (a'.add (i * 2)) = some (.int .u8 (numAt W (a'.add (i * 2)))) ∧ W.cell? (a'.add (i * 2 + 1)) = some (.int .u8 (numAt W (a'.add (i * 2 + 1))))) ∧ (Lit.int .u8 (numAt W (a'.add (i * 2)))).wf = true ∧ (Lit.int .u8 (numAt W (a'.add (i * 2 + 1)))).wf = true := by
      intro i hi
      obtain ⟨h0, h1, h2, h3⟩ := hc i (by omega)
      obtain ⟨n0, e0, -, w0⟩ := DataW.trod_int Try.underlying5 h2
      obtain ⟨n1, e1, -, w1⟩ := DataW.trod_int Try.underlying5 h3
      simp at e0 e1
      rw [h0, h1]
      unfold numAt
      rw [h0, h1, e0, e1]
      exact ⟨⟨rfl, rfl⟩, w0, w1⟩
    refine ⟨(List.range len).map (fun i => (numAt W (a'.add (i * 2)), numAt W (a'.add (i * 2 + 1)))), by simp, by omega, hl, fun j hj => ?_⟩
    obtain ⟨b, o, s⟩ := a'
    have hp0 := (hfact 0 (by omega)).1.1
    rw [add_zeroG] at hp0
    have hp := plain_addr hp0
    simp only [Addr.mk.injEq, true_and] at hp
    subst hp
    obtain ⟨⟨h0, h1⟩, w0, w1⟩ := hfact j hj
    simp only [Lit.wf, Bool.and_eq_true, decide_eq_true_eq] at w0 w1
    rw [List.getD_eq_getElem?_getD, List.getElem?_map, List.getElem?_range hj]
    simp only [Option.map_some, Option.getD_some]
    rw [Go.WideShapes.add_plain] at h0 h1
    have hbl := block_lt_of_cell h0
    refine ⟨b, o, rfl, fun V hV => ⟨?_, ?_⟩, ⟨w0.1, w0.2⟩, ⟨w1.1, w1.2⟩⟩
    · exact (hV.cell (p := ⟨b, o + j * 2, none⟩) hbl).trans (by rw [h0, Go.WideShapes.add_plain])
    · exact (hV.cell (p := ⟨b, o + (j * 2 + 1), none⟩) hbl).trans (by rw [h1, Go.WideShapes.add_plain])

/-! ### What the laws share -/
/-- The state behind the last Put: all that is left is one part. -/
theorem last_take {T : ByteArray} {s : GS} (h : GsOk T s) (hT : T.size ≤ 250) (hm : ∀ k, mem s.l k ↔ s.rd ≤ k ∧ k < (T.size : Int)) : tk s 1000 = (T.size : Int) - s.rd ∧ dropL s ((T.size : Int) - s.rd) = [] := by
  have r0 := h.r0
  have r1 := h.r1
  by_cases he : s.rd = (T.size : Int)
  · have hl : s.l = [] := can_none h.can (fun k hk => by have := (hm k).1 hk; omega)
    refine ⟨?_, ?_⟩
    · unfold tk; rw [rdy_nil hl]; omega
    · unfold dropL; rw [hl]
  · have hl : s.l = [(s.rd, (T.size : Int) - 1)] := can_is h.can r0 (by omega) (by omega) (fun k => by rw [hm]; omega)
    have hy := rdy_yes hl rfl
    simp only at hy
    refine ⟨?_, ?_⟩
    · unfold tk; rw [hy]; omega
    · rw [dropL_all hl (by omega) (by omega)]
theorem ext_app {T : ByteArray} {a b : Nat} (h : a ≤ b) : T.extract 0 a ++ T.extract a b = T.extract 0 b := by
  rw [← ByteArray.extract_eq_extract_append_extract _ (Nat.zero_le _) h]
theorem ext_size {T : ByteArray} {a : Nat} (h : a ≤ T.size) : (T.extract 0 a).size = a := by
  rw [ByteArray.size_extract]; omega
theorem ext_all (T : ByteArray) : T.extract 0 T.size = T := by
  exact ByteArray.extract_zero_size
theorem ext_same {T : ByteArray} {a b : Nat} (h : b ≤ T.size) : T.extract a (a + (T.extract a b).size) = T.extract a b := by
  rw [ByteArray.size_extract]
  by_cases hab : a ≤ b
  · rw [show a + (min b T.size - a) = b by omega]
  · rw [show min b T.size - a = 0 by omega, Nat.add_zero]
    apply ByteArray.ext
    simp
    omega
end Go.Proofs.Ytndnlpohdimgaaa.Rg
