/- The walk of the law VarintMany. -/
import Derived.Test.YtfeecfdbncjmnaaDoorVmP
import Derived.OpenShut
namespace Go.Proofs.YtfeecfdbncjmnaaDoor.Vm
set_option maxRecDepth 20000
open Go.RowKit
set_option linter.unusedVariables false

def gsA (l : List UInt8) (k : Nat) : List Nat := match gst l k with | some (acc, _) => acc | none => []
def gsR (l : List UInt8) (k : Nat) : List UInt8 := match gst l k with | some (_, r) => r | none => []
def gsE (l : List UInt8) (k : Nat) : Int := match gst l k with | some _ => 0 | none => 10
theorem gets_post {l : List UInt8} {k : Nat} {w w' : World} {e : Ending} (h : GetsPost l k w e w') :
    Below w.heap.size w w' ∧ ∃ v, e = .returned (.tuple #[v, .string ⟨(gsR l k).toArray⟩, .int .i64 (gsE l k)]) ∧ w'.ownsRow w.heap.size 23 1 v (gsA l k).length (numCells (gsA l k)) := by
  obtain ⟨hb, h⟩ := h
  refine ⟨hb, ?_⟩
  unfold gsR gsE gsA
  cases hg : gst l k with
  | none => rw [hg] at h; exact ⟨_, h, World.ownsRow_nil _ _ _ _⟩
  | some x => rw [hg] at h; exact h
theorem gsA_len (l : List UInt8) (k : Nat) : (gsA l k).length ≤ k := by
  unfold gsA
  cases hg : gst l k with
  | none => simp
  | some x => have := (gst_len hg).1; simp; omega

/-- The slice that came in reads as these numbers. -/
def ArgRow (w : World) (a : Option Addr) (n : Nat) (es : List Int) : Prop := es.length = n ∧ (es = [] ∨ ∃ b off, a = some ⟨b, off, none⟩ ∧ NumRow w b off es)
theorem ArgRow.below {w w' : World} {a : Option Addr} {n : Nat} {es : List Int} (h : ArgRow w a n es) (hb : Below w.heap.size w w') : ArgRow w' a n es := by
  obtain ⟨h1, h2⟩ := h
  refine ⟨h1, ?_⟩
  rcases h2 with h2 | ⟨b, off, rfl, h2⟩
  · exact .inl h2
  · exact .inr ⟨b, off, rfl, h2.below hb h2.1⟩
theorem ArgRow.reads {w : World} {a : Option Addr} {n cap : Nat} {es : List Int} (h : ArgRow w a n es) : Reads w (.slice a n cap) (es.map Int.toNat) := by
  obtain ⟨rfl, h2⟩ := h
  rcases h2 with rfl | ⟨b, off, rfl, h2⟩
  · exact .inl ⟨rfl, _, _, rfl⟩
  · refine .inr ⟨b, off, cap, by simp, fun i hi => ?_⟩
    have hi' : i < es.length := by simpa using hi
    obtain ⟨h3, h4⟩ := h2.2 i hi'
    rw [h3]
    have : ((es.map Int.toNat).getD i 0 : Nat) = (es.getD i 0).toNat := by simp [List.getD, List.getElem?_eq_getElem hi']
    rw [this, Int.toNat_of_nonneg h4]
theorem vputs (a : Option Addr) (n cap : Nat) (es : List Int) (w : World) (ht : Tab w) (h : ArgRow w a n es) (hl : n ≤ 1000) :
    Calls Tryd.prog 61 #[.slice a n cap] w (PutsPost es w) := by
  obtain ⟨rfl, h2⟩ := h
  rcases h2 with rfl | ⟨b, off, rfl, h2⟩
  · exact vputs_nil a cap w
  · exact vputs_row b off cap es w ht h2 hl
theorem arg_row {w : World} {a : Option Addr} {len cap : Nat} {zs : List Int} (h : IsRow .u64 w a len cap zs) : len ≤ maxLen ∧ ArgRow w a len (zs.take len) := by
  rcases h with ⟨rfl, rfl, rfl, rfl⟩ | ⟨x, rfl, hl, hm, hz, hcell, hwz⟩
  · exact ⟨Nat.zero_le _, rfl, .inl rfl⟩
  · refine ⟨by omega, by rw [List.length_take]; omega, ?_⟩
    by_cases h0 : len = 0
    · subst h0; exact .inl rfl
    · obtain ⟨b, off, spot⟩ := x
      have hc := hcell 0 (by omega)
      have hspot : spot = none := by simpa [Addr.add] using World.cell?_spot hc
      subst hspot
      have hplain : ∀ i, (⟨b, off, none⟩ : Addr).add i = ⟨b, off + i, none⟩ := by intro i; unfold Addr.add; split <;> simp_all
      refine .inr ⟨b, off, rfl, ?_, ?_⟩
      · rcases Nat.lt_or_ge b w.heap.size with h1 | h1
        · exact h1
        · rw [hplain] at hc
          simp [World.cell?, Array.getElem?_eq_none h1] at hc
      · intro i hi
        rw [List.length_take] at hi
        have e : (zs.take len).getD i 0 = zs.getD i 0 := by simp only [List.getD]; rw [List.getElem?_take_of_lt (by omega)]
        rw [e, ← hplain]
        refine ⟨hcell i (by omega), ?_⟩
        have hlt : i < zs.length := by omega
        have := bounds_u64 (hwz (zs[i]) (List.getElem_mem _))
        simpa [List.getD, List.getElem?_eq_getElem hlt] using this.1

end Go.Proofs.YtfeecfdbncjmnaaDoor.Vm
