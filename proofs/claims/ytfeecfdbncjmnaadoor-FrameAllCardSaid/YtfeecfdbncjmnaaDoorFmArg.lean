/- Layer 6's arguments, opened: a row of ranges in a frame. -/
import Derived.Test.YtfeecfdbncjmnaaDoorFmS
import Derived.ProofKit
import Derived.Deep.SlicePairs
import Derived.Lib.SmallJoins
namespace Go.Proofs.YtfeecfdbncjmnaaDoor.Fm
set_option maxRecDepth 20000
open Go.RowKit Go.Shelf Go.ChangeShapes Go.WideShapes Go.Deep
set_option linter.unusedVariables false

/-- What a caller's numbers are. -/
def Nums (l : List Ran) : Prop := ∀ x ∈ l, (0 ≤ x.1 ∧ x.1 ≤ 18446744073709551615) ∧ 0 ≤ x.2 ∧ x.2 ≤ 18446744073709551615
theorem plain_addr {w : World} {a : Addr} {v : Value} (h : w.cell? a = some v) : a = ⟨a.block, a.off, none⟩ := by
  obtain ⟨b, o, s⟩ := a
  cases s with
  | none => rfl
  | some s =>
    unfold World.cell? at h
    simp only at h
    split at h
    · simp at h
    · cases h
theorem add_zero' (a : Addr) : a.add (0 * 2) = a := by simp [Addr.add]
theorem add_pl (b o k : Nat) : (⟨b, o, none⟩ : Addr).add k = ⟨b, o + k, none⟩ := by unfold Addr.add; split <;> simp_all
def numAt (w : World) (a : Addr) : Int := match w.cell? a with | some (.int _ n) => n | _ => 0
theorem row_of_field {H : Type} {enc : TypeId × Value → H} {W : World} {held : Bool} {fuel : Nat} {t : TypeId} {v : Value} {x : DataW H × List MemPlace}
    (ht : Tryd.prog.underlying t = some (.slice 54)) (h : DataW.trod enc Tryd.prog W 0 (fun _ => true) held fuel t [v] = some x) :
    ∃ (a : Option Addr) (len cap : Nat) (l : List Ran), v = .slice a len cap ∧ l.length = len ∧ len ≤ maxLen ∧ Rd W (.slice a len cap) l ∧ Nums l := by
  rcases open_slice_pairs ht Tryd.underlying54 (by kernel_rfl) rfl rfl (by kernel_rfl) (by kernel_rfl) h with ⟨hcs, _⟩ | ⟨a', len, cap, m, n, V0, V1, D0, D1, P0, P1, hcs, hb, hl, hm, hmm, hx, hc⟩
  · simp at hcs
    subst hcs
    exact ⟨none, 0, 0, [], rfl, rfl, Nat.zero_le _, ⟨_, _, rfl, Nat.le_refl _, fun h => absurd rfl h⟩, fun x hx => by cases hx⟩
  · simp at hcs
    subst hcs
    have hml : len ≤ m := by rw [hmm]; simp; omega
    have hfact : ∀ i, i < len → (W.cell? (a'.add (i * 2)) = some (.int .u64 (numAt W (a'.add (i * 2)))) ∧ (Lit.int .u64 (numAt W (a'.add (i * 2)))).wf = true) ∧ W.cell? (a'.add (i * 2 + 1)) = some (.int .u64 (numAt W (a'.add (i * 2 + 1)))) ∧ (Lit.int .u64 (numAt W (a'.add (i * 2 + 1)))).wf = true := by
      intro i hi
      obtain ⟨h0, h1, h2, h3⟩ := hc i (by omega)
      obtain ⟨n0, e0, -, w0⟩ := DataW.trod_int Tryd.underlying23 h2
      obtain ⟨n1, e1, -, w1⟩ := DataW.trod_int Tryd.underlying23 h3
      simp at e0 e1
      rw [h0, h1]
      unfold numAt
      rw [h0, h1, e0, e1]
      exact ⟨⟨rfl, w0⟩, rfl, w1⟩
    refine ⟨some a', len, cap, (List.range len).map (fun i => (numAt W (a'.add (i * 2)), numAt W (a'.add (i * 2 + 1)))), rfl, by simp, by omega, ⟨some a', cap, by simp, by simpa using hl, fun hne => ?_⟩, fun x hx => ?_⟩
    · have hpos : 0 < len := by have := List.length_pos_iff.2 hne; simpa using this
      obtain ⟨b, o, s⟩ := a'
      have hp0 := (hfact 0 hpos).1.1
      rw [add_zero'] at hp0
      have hp := plain_addr hp0
      simp only [Addr.mk.injEq, true_and] at hp
      subst hp
      refine ⟨b, o, rfl, fun i hi => ?_⟩
      have hi' : i < len := by simpa using hi
      obtain ⟨⟨h0, _⟩, h1, _⟩ := hfact i hi'
      rw [List.getD_eq_getElem?_getD, List.getElem?_map, List.getElem?_range hi']
      rw [add_pl] at h0 h1
      simp only [Option.map_some, Option.getD_some, add_pl]
      exact ⟨h0, h1⟩
    · obtain ⟨i, hi, rfl⟩ := List.mem_map.1 hx
      obtain ⟨⟨_, w0⟩, _, w1⟩ := hfact i (List.mem_range.1 hi)
      exact ⟨bounds_u64 w0, bounds_u64 w1⟩
end Go.Proofs.YtfeecfdbncjmnaaDoor.Fm
