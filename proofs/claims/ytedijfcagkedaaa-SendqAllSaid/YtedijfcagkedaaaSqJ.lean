/- Layer 15: texts, numbers and acts among the arguments. By hand. -/
import Derived.Test.YtedijfcagkedaaaSqH
import Derived.ProofKit
import Derived.WideShapes
import Derived.SliceStrings
import Derived.Deep.SlicePairs
import Derived.Deep.CutRange
namespace Go.Proofs.Ytedijfcagkedaaa
set_option maxRecDepth 20000
/-- What a caller's slice of integers is. -/
def IsRow (k : IntKind) (w : World) (a : Option Addr) (len cap : Nat) (zs : List Int) : Prop :=
  (a = none ∧ len = 0 ∧ cap = 0 ∧ zs = []) ∨ ∃ ad, a = some ad ∧ len ≤ cap ∧ cap ≤ maxLen ∧ zs.length = cap ∧ (∀ i, i < zs.length → w.cell? (ad.add i) = some (.int k (zs.getD i 0))) ∧ ∀ n ∈ zs, (Lit.int k n).wf = true
end Go.Proofs.Ytedijfcagkedaaa
namespace Go.Proofs.Ytedijfcagkedaaa.Rg
set_option maxRecDepth 20000
open Go.RowKit Go.ChangeShapes Go.WideShapes Go.Deep
set_option linter.unusedVariables false
set_option linter.unusedSimpArgs false

theorem plain_addr {w : World} {a : Addr} {v : Value} (h : w.cell? a = some v) : a = ⟨a.block, a.off, none⟩ := by
  obtain ⟨b, o, s⟩ := a
  cases s with
  | none => rfl
  | some s =>
    unfold World.cell? at h
    simp only at h
    split at h
    · simp at h
    · cases h
/-- A row of numbers as an argument. -/
def RI (k : IntKind) (w : World) (a : Option Addr) (n c : Nat) (l : List Int) : Prop :=
  n ≤ c ∧ ∀ j, j < n → ∃ b o, a = some ⟨b, o, none⟩ ∧ (∀ W, Below w.heap.size w W → W.cell? ⟨b, o + j, none⟩ = some (.int k (l.getD j 0))) ∧ (Lit.int k (l.getD j 0)).wf = true
theorem ri_of {k : IntKind} {w : World} {a : Option Addr} {n c : Nat} {l : List Int} (h : IsRow k w a n c l) : RI k w a n c l := by
  rcases h with ⟨rfl, rfl, rfl, rfl⟩ | ⟨x, rfl, hl, hm, hz, hcell, hwz⟩
  · exact ⟨Nat.le_refl _, fun j hj => absurd hj (by omega)⟩
  · refine ⟨hl, fun j hj => ?_⟩
    obtain ⟨b, off, spot⟩ := x
    have hspot : spot = none := by simpa [Addr.add] using World.cell?_spot (hcell 0 (by omega))
    subst hspot
    have h1 := hcell j (by omega)
    rw [Go.WideShapes.add_plain] at h1
    have hb := block_lt_of_cell h1
    refine ⟨b, off, rfl, fun W hW => (hW.cell hb).trans h1, ?_⟩
    have hlt : j < l.length := by omega
    have := hwz (l[j]) (List.getElem_mem _)
    rw [List.getD_eq_getElem?_getD, List.getElem?_eq_getElem hlt]
    exact this
/-- Texts as an argument. -/
def Txs (w : World) (a : Option Addr) (n c : Nat) (l : List ByteArray) : Prop :=
  n ≤ c ∧ ∀ j, j < n → ∃ b o, a = some ⟨b, o, none⟩ ∧ ∀ W, Below w.heap.size w W → W.cell? ⟨b, o + j, none⟩ = some (.string (l.getD j ⟨#[]⟩))
theorem texts_of_trod {H : Type} {enc : TypeId × Value → H} {W : World} {held : Bool} {fuel : Nat} {t : TypeId} {a : Option Addr} {len cap : Nat} {x : DataW H × List MemPlace}
    (ht : Try.prog.underlying t = some (.slice 9)) (h : DataW.trod enc Try.prog W 0 (fun _ => true) held fuel t (Value.cells (.slice a len cap)).toList = some x) :
    ∃ l : List ByteArray, l.length = len ∧ len ≤ maxLen ∧ Txs W a len cap l := by
  rcases Go.ChangeShapes.open_strings ht Try.underlying9 (by kernel_rfl) h with ⟨hcs, _⟩ | ⟨p, len', cap', ss, hcs, _, hl, hm, hz, hx, hcell, hsz⟩
  · simp [Value.cells] at hcs
    obtain ⟨rfl, rfl, rfl⟩ := hcs
    exact ⟨[], rfl, Nat.zero_le _, Nat.le_refl _, fun j hj => absurd hj (by omega)⟩
  · simp [Value.cells] at hcs
    obtain ⟨rfl, rfl, rfl⟩ := hcs
    have hzl : ss.length = cap := by simpa using hz
    refine ⟨ss.take len, by rw [List.length_take]; omega, by omega, hl, fun j hj => ?_⟩
    have h0 := hcell 0 (by omega)
    obtain ⟨b, o, s⟩ := p
    have hp := plain_addr h0
    have hs : s = none := by
      have e0 : (⟨b, o, s⟩ : Addr).add 0 = ⟨b, o, s⟩ := by simp [Addr.add]
      rw [e0] at hp
      simpa using hp
    subst hs
    have h1 := hcell j (by omega)
    rw [Go.WideShapes.add_plain] at h1
    have hb := block_lt_of_cell h1
    refine ⟨b, o, rfl, fun W' hW => (hW.cell hb).trans ?_⟩
    rw [h1, List.getD_eq_getElem?_getD, List.getD_eq_getElem?_getD, List.getElem?_take, if_pos hj]
    rfl
/-- An act. -/
structure AcV where
  kd : Int
  n : Int
  off : Int
  d : ByteArray
  f : Bool
def acZ : AcV := ⟨0, 0, 0, ⟨#[]⟩, false⟩
def acs (x : AcV) : List Value := [.int .i64 x.kd, .int .i64 x.n, .int .u64 x.off, .string x.d, .bool x.f]
/-- Acts as an argument. -/
def Act5 (w : World) (a : Option Addr) (n c : Nat) (l : List AcV) : Prop :=
  n ≤ c ∧ ∀ j, j < n → ∃ b o, a = some ⟨b, o, none⟩ ∧ (∀ W, Below w.heap.size w W → ∀ i, i < 5 → W.cell? ⟨b, o + (j * 5 + i), none⟩ = (acs (l.getD j acZ))[i]?) ∧
    (-9223372036854775808 ≤ (l.getD j acZ).n ∧ (l.getD j acZ).n ≤ 9223372036854775807) ∧ (0 ≤ (l.getD j acZ).off ∧ (l.getD j acZ).off ≤ 18446744073709551615)
theorem one_int : Try.prog.cellsOf 3 = 1 := by kernel_rfl
theorem one_uint64 : Try.prog.cellsOf 23 = 1 := by kernel_rfl
theorem one_string : Try.prog.cellsOf 9 = 1 := by kernel_rfl
theorem one_bool : Try.prog.cellsOf 4 = 1 := by kernel_rfl
theorem size_act : Try.prog.cellsOf 35 = 5 := by kernel_rfl
theorem acts_of_trod {H : Type} {enc : TypeId × Value → H} {W : World} {held : Bool} {fuel : Nat} {t : TypeId} {a : Option Addr} {len cap : Nat} {x : DataW H × List MemPlace}
    (ht : Try.prog.underlying t = some (.slice 35)) (h : DataW.trod enc Try.prog W 0 (fun _ => true) held fuel t (Value.cells (.slice a len cap)).toList = some x) :
    ∃ G : List AcV, G.length = len ∧ len ≤ maxLen ∧ Act5 W a len cap G := by
  rcases Go.Deep.open_slice ht h with ⟨hcs, _⟩ | ⟨p, len', cap', m, n, D, Pl, hcs, _, hl, hm, hmm, hx, hi⟩
  · simp [Value.cells] at hcs
    obtain ⟨rfl, rfl, rfl⟩ := hcs
    exact ⟨[], rfl, Nat.zero_le _, Nat.le_refl _, fun j hj => absurd hj (by omega)⟩
  · simp [Value.cells] at hcs
    obtain ⟨rfl, rfl, rfl⟩ := hcs
    have hml : len ≤ m := by rw [hmm]; simp; omega
    have key : ∀ i, i < len → ∃ e : AcV, (∀ j, j < 5 → W.cell? (p.add (i * 5 + j)) = (acs e)[j]?) ∧ (-9223372036854775808 ≤ e.n ∧ e.n ≤ 9223372036854775807) ∧ (0 ≤ e.off ∧ e.off ≤ 18446744073709551615) := by
      intro i hil
      obtain ⟨cs', hc, htr⟩ := hi i (by omega)
      rw [size_act] at hc
      obtain ⟨ys, n', _, _, _, hlen, hf⟩ := DataW.trod_struct Try.underlying35 htr
      obtain ⟨_, hcl, hat⟩ := World.cells?_some hc
      match cs', hcl with
      | [c0, c1, c2, c3, c4], _ =>
        match ys, hlen with
        | [y0, y1, y2, y3, y4], _ =>
          have f0 := hf 0 _ rfl
          change DataW.trod enc Try.prog W 0 (fun _ => true) held n' 3 (List.take (Try.prog.cellsOf 3) (List.drop 0 [c0, c1, c2, c3, c4])) = some y0 at f0
          rw [one_int] at f0
          change DataW.trod enc Try.prog W 0 (fun _ => true) held n' 3 [c0] = some y0 at f0
          have f1 := hf 1 _ rfl
          change DataW.trod enc Try.prog W 0 (fun _ => true) held n' 3 (List.take (Try.prog.cellsOf 3) (List.drop 1 [c0, c1, c2, c3, c4])) = some y1 at f1
          rw [one_int] at f1
          change DataW.trod enc Try.prog W 0 (fun _ => true) held n' 3 [c1] = some y1 at f1
          have f2 := hf 2 _ rfl
          change DataW.trod enc Try.prog W 0 (fun _ => true) held n' 23 (List.take (Try.prog.cellsOf 23) (List.drop 2 [c0, c1, c2, c3, c4])) = some y2 at f2
          rw [one_uint64] at f2
          change DataW.trod enc Try.prog W 0 (fun _ => true) held n' 23 [c2] = some y2 at f2
          have f3 := hf 3 _ rfl
          change DataW.trod enc Try.prog W 0 (fun _ => true) held n' 9 (List.take (Try.prog.cellsOf 9) (List.drop 3 [c0, c1, c2, c3, c4])) = some y3 at f3
          rw [one_string] at f3
          change DataW.trod enc Try.prog W 0 (fun _ => true) held n' 9 [c3] = some y3 at f3
          have f4 := hf 4 _ rfl
          change DataW.trod enc Try.prog W 0 (fun _ => true) held n' 4 (List.take (Try.prog.cellsOf 4) (List.drop 4 [c0, c1, c2, c3, c4])) = some y4 at f4
          rw [one_bool] at f4
          change DataW.trod enc Try.prog W 0 (fun _ => true) held n' 4 [c4] = some y4 at f4
          obtain ⟨a0, e0, _, w0⟩ := DataW.trod_int Try.underlying3 f0
          obtain ⟨a1, e1, _, w1⟩ := DataW.trod_int Try.underlying3 f1
          obtain ⟨a2, e2, _, w2⟩ := DataW.trod_int Try.underlying23 f2
          obtain ⟨a3, e3, _, w3⟩ := DataW.trod_string Try.underlying9 f3
          obtain ⟨a4, e4, _⟩ := DataW.trod_bool Try.underlying4 f4
          simp only [List.cons.injEq, and_true] at e0 e1 e2 e3 e4
          subst e0; subst e1; subst e2; subst e3; subst e4
          refine ⟨⟨a0, a1, a2, a3, a4⟩, fun j hj => ?_, bounds_i64 w1, bounds_u64 w2⟩
          rw [← Go.Deep.add_add, hat j hj]
          rfl
    refine ⟨(List.range len).map (fun i => if h : i < len then Classical.choose (key i h) else acZ), by simp, by omega, by simpa using hl, fun j hj => ?_⟩
    have hp0 := (Classical.choose_spec (key 0 (by omega))).1 0 (by decide)
    have hpp : p = ⟨p.block, p.off, none⟩ := by
      have := plain_addr (hp0.trans rfl)
      rwa [show p.add (0 * 5 + 0) = p by simp [Addr.add]] at this
    have hbl : p.block < W.heap.size := by
      have := World.block_lt_of_cell? _ _ (hp0.trans rfl)
      rwa [show p.add (0 * 5 + 0) = p by simp [Addr.add]] at this
    have hsp := Classical.choose_spec (key j hj)
    have hge : ((List.range len).map (fun i => if h : i < len then Classical.choose (key i h) else acZ)).getD j acZ = Classical.choose (key j hj) := by
      rw [List.getD_eq_getElem?_getD, List.getElem?_map, List.getElem?_range hj]
      simp only [Option.map_some, Option.getD_some, dif_pos hj]
    rw [hge]
    refine ⟨p.block, p.off, by rw [← hpp], fun W' hW i hi => ?_, hsp.2⟩
    have h := hsp.1 i hi
    rw [(congrArg (fun q => q.add (j * 5 + i)) hpp).trans (Addr.add_lit _ _ _)] at h
    exact (hW.cell (p := ⟨p.block, p.off + (j * 5 + i), none⟩) hbl).trans h
end Go.Proofs.Ytedijfcagkedaaa.Rg
