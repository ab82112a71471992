/- The walks of layer 1: Puts, both ways. -/
import Derived.Test.YtfeecfdbncjmnaaDoorVmN
namespace Go.Proofs.YtfeecfdbncjmnaaDoor.Vm
set_option maxRecDepth 20000
open Go.RowKit
set_option linter.unusedVariables false

/-- What Puts tells of numbers: their bytes, or the first error and nothing. -/
def allFit (zs : List Int) : Prop := ∀ z ∈ zs, pl z.toNat < 4
def PutsPost (zs : List Int) (w : World) (e : Ending) (w' : World) : Prop :=
  Below w.heap.size w w' ∧ ((allFit zs ∧ e = .returned (.tuple #[.string ⟨(pcat zs).toArray⟩, .int .i64 0])) ∨ (¬ allFit zs ∧ e = .returned (.tuple #[.string ⟨#[]⟩, .int .i64 1])))
theorem puts_good {zs : List Int} {w w' : World} {s : ByteArray} (h : allFit zs) (hs : s = ⟨(pcat zs).toArray⟩) (hb : Below w.heap.size w w') : PutsPost zs w (.returned (.tuple #[.string s, .int .i64 0])) w' := ⟨hb, .inl ⟨h, by rw [hs]⟩⟩
theorem puts_bad {zs : List Int} {w w' : World} (h : ¬ allFit zs) (hb : Below w.heap.size w w') : PutsPost zs w (.returned (.tuple #[.string ⟨#[]⟩, .int .i64 1])) w' := ⟨hb, .inr ⟨h, rfl⟩⟩
def fitTo (zs : List Int) (k : Nat) : Prop := ∀ i, i < k → pl (zs.getD i 0).toNat < 4
theorem fit_all {zs : List Int} (h : fitTo zs zs.length) : allFit zs := by
  intro z hz
  obtain ⟨i, hi, rfl⟩ := List.getElem_of_mem hz
  have := h i hi
  simpa [List.getD, List.getElem?_eq_getElem hi] using this
theorem fit_not {zs : List Int} {k : Nat} (hk : k < zs.length) (h : ¬ pl (zs.getD k 0).toNat < 4) : ¬ allFit zs := by
  intro ha
  apply h
  have := ha (zs[k]) (List.getElem_mem _)
  simpa [List.getD, List.getElem?_eq_getElem hk] using this
theorem fit_succ {zs : List Int} {k : Nat} (h : fitTo zs k) (h1 : pl (zs.getD k 0).toNat < 4) : fitTo zs (k + 1) := by
  intro i hi
  rcases Nat.lt_or_ge i k with h2 | h2
  · exact h i h2
  · obtain rfl : i = k := by omega
    exact h1
/-- The cells of the numbers that came in. -/
def NumRow (w : World) (b off : Nat) (zs : List Int) : Prop := b < w.heap.size ∧ ∀ i, i < zs.length → w.cell? ⟨b, off + i, none⟩ = some (.int .u64 (zs.getD i 0)) ∧ 0 ≤ zs.getD i 0
theorem NumRow.below {w w' : World} {b off : Nat} {zs : List Int} (h : NumRow w b off zs) {B : Nat} (hb : Below B w w') (hB : b < B) : NumRow w' b off zs :=
  ⟨Nat.lt_of_lt_of_le h.1 hb.size, fun i hi => ⟨(hb.cell (p := ⟨b, off + i, none⟩) hB).trans (h.2 i hi).1, (h.2 i hi).2⟩⟩

def RputsRel (zs : List Int) (w : World) (sv iv : Value) (wr : World) : Prop :=
  ∃ k : Nat, k ≤ zs.length ∧ fitTo zs k ∧ iv = .int .i64 k ∧ sv = .string ⟨(pcat (zs.take k)).toArray⟩ ∧ Below w.heap.size w wr
def VputsRel (zs : List Int) (w : World) (iv : Value) (wr : World) : Prop :=
  ∃ k : Nat, k ≤ zs.length ∧ fitTo zs k ∧ iv = .int .i64 k ∧ Lib.IsBuilder 72 5 w.heap.size w.heap.size (Lib.byteCells (pcat (zs.take k))) wr ∧ Below w.heap.size w wr

theorem app_two (l m : List UInt8) : ((⟨l.toArray⟩ : ByteArray) ++ (⟨m.toArray⟩ : ByteArray)) = ⟨(l ++ m).toArray⟩ := by
  apply ByteArray.ext
  simp

set_option maxHeartbeats 1000000 in
theorem vputs_nil (a : Option Addr) (cap : Nat) (w : World) : Calls Tryd.prog 61 #[.slice a 0 cap] w (PutsPost [] w) := by
  have HB := Lib.hid (Lib.fresh_isBuilder 72 5 w)
  go_enter Tryd.func61, Tryd.ntmps61
  go_wp2
  refine wp_loop_rounds 1 ?_
  rw [rounds_succ]
  go_wp2_with fail
  refine (Tryd.Builder_String_any w.heap.size w.heap.size [] _ HB.out (by simp)).mono ?_
  rintro e w1 ⟨rfl, hb1⟩
  go_wp2
  go_ret2
  exact puts_good (fun z hz => by simp at hz) rfl (((Below.refl _ _).alloc (Nat.le_refl _) _).trans hb1)

set_option maxHeartbeats 1000000 in
theorem vputs_row (b off cap : Nat) (zs : List Int) (w : World) (ht : Tab w) (hr : NumRow w b off zs) (hl : zs.length ≤ 1000) :
    Calls Tryd.prog 61 #[.slice (some ⟨b, off, none⟩) zs.length cap] w (PutsPost zs w) := by
  have hblt := hr.1
  have HR := Lib.hid hr
  clear hr
  have hlt0 := ht.lt
  have HT0 := Lib.hid ht
  clear ht
  have HB := Lib.hid (Lib.fresh_isBuilder 72 5 w)
  go_enter Tryd.func61, Tryd.ntmps61
  go_wp2
  go_loopw [11] (fun iv wr => VputsRel zs w iv wr) (fun iv _ => zs.length - (intOf iv).toNat)
  case atStart => exact ⟨0, Nat.zero_le _, fun i hi => by omega, rfl, HB.out, (Below.refl _ _).alloc (Nat.le_refl _) _⟩
  case round =>
    obtain ⟨k, hk, hf, rfl, hI, hb⟩ := hrel
    have HI := Lib.hid hI
    clear hI
    have HF := Lib.hid hf
    clear hf
    have hsz := hb.size
    have HTr := Lib.hid (HT0.out.below hb hlt0)
    have HRr := Lib.hid (HR.out.below hb hblt)
    by_cases hlt : k < zs.length
    · have hc := (HRr.out.2 k hlt).1
      have h0 := (HRr.out.2 k hlt).2
      have HT := Lib.hid (pcat_take zs k hlt)
      have hp := pcat_len (zs.take k)
      have hpl := List.length_take_le k zs
      have HN : Hid (¬ pl (zs.getD k 0).toNat < 4 → ¬ allFit zs) := Lib.hid (fun h => fit_not hlt h)
      have HS : Hid (pl (zs.getD k 0).toNat < 4 → fitTo zs (k + 1)) := Lib.hid (fun h => fit_succ HF.out h)
      have HL := Lib.hid (pl_le (zs.getD k 0).toNat)
      generalize zs.getD k 0 = z at *
      go_wp2_with fail
      refine (vput _ _ HTr.out h0).mono ?_
      rintro e w1 ⟨rfl, hb1⟩
      have hsz1 := hb1.size
      by_cases hok : pl z.toNat < 4
      · have HOK := Lib.hid hok
        clear hok
        rw [(ps_ok HOK.out).1, (ps_ok HOK.out).2]
        have hz := (pt_le z.toNat HOK.out).2
        have HI1 := Lib.hid (builder_below HI.out hb1)
        have HZ : Hid ((Lib.byteCells (pcat (zs.take k))).length + (⟨(pt z.toNat).toArray⟩ : ByteArray).size ≤ 140737488355328) := Lib.hid (by rw [Lib.byteCells_length, size_len]; simp; omega)
        go_wp2_with fail
        refine (Bld.writeString w.heap.size w.heap.size _ ⟨(pt z.toNat).toArray⟩ _ HI1.out HZ.out (by omega)).mono ?_
        rintro e w2 ⟨rfl, hI2, hb2⟩
        have HI2 := Lib.hid hI2
        clear hI2
        go_wp2
        go_roundw
        case rel => exact ⟨k + 1, by omega, HS.out HOK.out, by go_num, by rw [HT.out, Lib.byteCells_append]; exact HI2.out, (hb.trans (hb1.mono hsz)).trans hb2⟩
        case measure => simp [intOf]; omega
      · have HOK := Lib.hid hok
        clear hok
        have h4 := Lib.hid (show pl z.toNat = 4 by have := HL.out; have := HOK.out; omega)
        rw [(ps_no h4.out).1, (ps_no h4.out).2]
        go_wp2
        go_ret2
        exact puts_bad (HN.out HOK.out) (hb.trans (hb1.mono hsz))
    · obtain rfl : k = zs.length := by omega
      go_wp2_with fail
      refine (Tryd.Builder_String_any w.heap.size w.heap.size _ _ HI.out hsz).mono ?_
      rintro e w1 ⟨rfl, hb1⟩
      go_wp2
      go_ret2
      exact puts_good (fit_all HF.out) (by first | rfl | rw [List.take_length]) (hb.trans hb1)
end Go.Proofs.YtfeecfdbncjmnaaDoor.Vm
