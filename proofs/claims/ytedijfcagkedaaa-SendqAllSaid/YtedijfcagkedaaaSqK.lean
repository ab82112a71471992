/- Layer 15: a call beside an alloc; mathematics of the law of writes. By tools/gen-sendq-9.py. -/
import Derived.Test.YtedijfcagkedaaaSqI
import Derived.Test.YtedijfcagkedaaaSqH
namespace Go.Proofs.Ytedijfcagkedaaa.Rg
set_option maxRecDepth 20000
open Go.RowKit Go.Shelf
set_option linter.unusedVariables false
set_option linter.unusedSimpArgs false

section
variable {P : Program} {ops : Array Oper} {Q : Exit → Act → World → Prop} {md : Region.Mode} {S : World → Prop} {E : Nat → Bool}
/-- Two may come next: behind each S holds. -/
theorem wpAnyE_two {i j : Nat} {o p : Oper} {fuel : Nat} {listed : Array Bool} {a : Act} {w : World} (hr : Region.ready md ops listed = [i, j]) (ho : ops[i]? = some o) (hp : ops[j]? = some p)
    (hw : Region.wanted o (yielded ops a.tmps) = true) (hv : Region.wanted p (yielded ops a.tmps) = true)
    (h1 : ∀ K' : Act → World → Prop, Shut (∀ a w, S w → (S w → wpAnyE P md ops Q S E fuel (listed.setIfInBounds i true) a w) → K' a w) → Oper.wp P o a w K' Q)
    (h2 : ∀ K' : Act → World → Prop, Shut (∀ a w, S w → (S w → wpAnyE P md ops Q S E fuel (listed.setIfInBounds j true) a w) → K' a w) → Oper.wp P p a w K' Q) :
    wpAnyE P md ops Q S E (fuel + 1) listed a w := by
  refine ⟨fun h0 => (by rw [hr] at h0; cases h0), fun k hk => ?_⟩
  rw [hr] at hk
  rcases List.mem_cons.1 hk with rfl | hk
  · exact wpOp_step ho (fun K' hK => by rw [if_pos hw]; exact h1 K' (fun a w hS hW => hK a w ⟨fun _ _ => hS, hW hS⟩))
  · obtain rfl := List.mem_singleton.1 hk
    exact wpOp_step hp (fun K' hK => by rw [if_pos hv]; exact h2 K' (fun a w hS hW => hK a w ⟨fun _ _ => hS, hW hS⟩))
end
theorem LS.put {w W : World} {g : Nat} {u v u' v' : Value} {s s' : SS} (h : LS w W g u v s) (ra : Rd W u' s'.ak) (rt : Rd W v' s'.td) (na : ¬ Blk u' g) (nt : ¬ Blk v' g) :
    LS w ((((((((W.setCell ⟨g, 0, none⟩ (.int .u64 s'.ba)).setCell ⟨g, 1, none⟩ (.int .u64 s'.tp)).setCell ⟨g, 2, none⟩ (.string s'.d)).setCell ⟨g, 3, none⟩ u').setCell ⟨g, 4, none⟩ v').setCell ⟨g, 5, none⟩ (.bool s'.fin)).setCell ⟨g, 6, none⟩ (.bool s'.ft)).setCell ⟨g, 7, none⟩ (.bool s'.fa)) g u' v' s' :=
  ⟨⟨eight_put h.q.hb _ _ _ _ _ _ _ _, rd_eight ra na _ _ _ _ _ _ _ _, rd_eight rt nt _ _ _ _ _ _ _ _, na, nt⟩, below_eight h.bl h.hg _ _ _ _ _ _ _ _, h.hg⟩
theorem LS.below8 {w W : World} {g p : Nat} {u v : Value} {s : SS} (h : LS w W g u v s) (hp : p ≠ g) (nu : ¬ Blk u p) (nv : ¬ Blk v p) (hpw : w.heap.size ≤ p) (x0 x1 x2 x3 x4 x5 x6 x7 : Value) :
    LS w ((((((((W.setCell ⟨p, 0, none⟩ x0).setCell ⟨p, 1, none⟩ x1).setCell ⟨p, 2, none⟩ x2).setCell ⟨p, 3, none⟩ x3).setCell ⟨p, 4, none⟩ x4).setCell ⟨p, 5, none⟩ x5).setCell ⟨p, 6, none⟩ x6).setCell ⟨p, 7, none⟩ x7) g u v s := by
  have q : Qb 29 ((((((((W.setCell ⟨p, 0, none⟩ x0).setCell ⟨p, 1, none⟩ x1).setCell ⟨p, 2, none⟩ x2).setCell ⟨p, 3, none⟩ x3).setCell ⟨p, 4, none⟩ x4).setCell ⟨p, 5, none⟩ x5).setCell ⟨p, 6, none⟩ x6).setCell ⟨p, 7, none⟩ x7) g u v s :=
    (((((((h.q.other (Ne.symm hp) nu nv x0).other (Ne.symm hp) nu nv x1).other (Ne.symm hp) nu nv x2).other (Ne.symm hp) nu nv x3).other (Ne.symm hp) nu nv x4).other (Ne.symm hp) nu nv x5).other (Ne.symm hp) nu nv x6).other (Ne.symm hp) nu nv x7
  exact ⟨q, below_eight h.bl hpw _ _ _ _ _ _ _ _, h.hg⟩

/-! ### Mathematics of the law of writes -/
/-- What holds of a state when i texts were written, of which A was taken; the end comes ahead of text e. -/
structure WrI (A : ByteArray) (e : Int) (s : SS) (i : Nat) : Prop where
  ok : SsOk s
  ba : s.ba = 0
  ak : s.ak = []
  td : ∀ x, mem s.td x ↔ 0 ≤ x ∧ x < (A.size : Int)
  d : s.d = A
  fn : s.fin = decide (e < (i : Int))
  sz : A.size ≤ 200 * i
theorem wrI_first {e : Int} (he : 0 ≤ e) : WrI ⟨#[]⟩ e s00 0 :=
  ⟨ss00, rfl, rfl, fun x => ⟨fun h => absurd h (mem_nil x), fun h => by have h2 : x < ((0 : Nat) : Int) := h.2; omega⟩, rfl, (decide_eq_false (show ¬ e < ((0 : Nat) : Int) by omega)).symm, Nat.le_refl _⟩
theorem append_none (A D : ByteArray) : A ++ D.extract 0 0 = A := by
  have h : D.extract 0 0 = ⟨#[]⟩ := by
    apply ByteArray.ext
    apply Array.eq_empty_of_size_eq_zero
    show (D.extract 0 0).size = 0
    rw [ByteArray.size_extract]; omega
  rw [h]
  exact ByteArray.append_empty
/-- The end, where it comes. -/
def midS (s : SS) (e : Int) (i : Nat) : SS := if (i : Int) = e then finS s else s
theorem WrI.mid {A : ByteArray} {e : Int} {s : SS} {i : Nat} (h : WrI A e s i) : SsOk (midS s e i) ∧ (midS s e i).ba = 0 ∧ (midS s e i).ak = [] ∧ (∀ x, mem (midS s e i).td x ↔ 0 ≤ x ∧ x < (A.size : Int)) ∧ (midS s e i).d = A ∧ (midS s e i).fin = decide (e ≤ (i : Int)) := by
  unfold midS
  by_cases hi : (i : Int) = e
  · rw [if_pos hi]
    have e2 : ∀ {α : Type} (f : SS → α), (f { s with fin := true, ft := true } = f s) → s.fin = false → f (finS s) = f s := by
      intro α f hf hn
      unfold finS
      rw [hn]
      exact hf
    have hn : s.fin = false := by rw [h.fn]; exact decide_eq_false (by omega)
    refine ⟨fin_ok h.ok, (e2 (·.ba) rfl hn).trans h.ba, (e2 (·.ak) rfl hn).trans h.ak, fun x => ?_, (e2 (·.d) rfl hn).trans h.d, ?_⟩
    · rw [e2 (·.td) rfl hn]; exact h.td x
    · unfold finS; rw [hn]; exact (decide_eq_true (by omega)).symm
  · rw [if_neg hi]
    exact ⟨h.ok, h.ba, h.ak, h.td, h.d, by rw [h.fn]; exact decide_eq_decide.2 (by omega)⟩
def wantN (A D : ByteArray) (room e : Int) (i : Nat) : Int := if e ≤ (i : Int) then 0 else min (D.size : Int) (max (max room 0 - (A.size : Int)) 0)
theorem WrI.step {A : ByteArray} {e : Int} {s : SS} {i : Nat} (h : WrI A e s i) (hi : i < 20) {D : ByteArray} (hD : D.size ≤ 200) (room : Int) :
    wrN (midS s e i) D room = wantN A D room e i ∧ WrI (A ++ D.extract 0 (wantN A D room e i).toNat) e (wrS (midS s e i) D room) (i + 1) := by
  obtain ⟨m1, m2, m3, m4, m5, m6⟩ := h.mid
  have hsz := h.sz
  have hen : en (midS s e i) = (A.size : Int) := by unfold en; rw [m2, m5]; omega
  have hw : wrN (midS s e i) D room = wantN A D room e i := by
    unfold wrN wantN frS
    rw [m6, m5]
    by_cases hq : e ≤ (i : Int)
    · rw [if_pos (decide_eq_true hq), if_pos hq]
    · rw [if_neg (by rw [decide_eq_false hq]; simp), if_neg hq]; omega
  refine ⟨hw, ?_⟩
  have hr := wrN_range (s := midS s e i) (D := D) (room := room)
  have hok := wr_ok m1 (D := D) (room := room) (by rw [hen]; omega)
  have hsz2 : (A ++ D.extract 0 (wantN A D room e i).toNat).size ≤ 200 * (i + 1) := by
    rw [ByteArray.size_append, ByteArray.size_extract]; omega
  rcases wr_cases (midS s e i) D room with ⟨q1, q2, q3⟩ | ⟨q1, q2, q3, _⟩
  · rw [q2] at hok ⊢
    rw [← hw, q3]
    rw [show (0 : Int).toNat = 0 from rfl, append_none]
    have hle : e ≤ (i : Int) := by rw [m6] at q1; exact of_decide_eq_true q1
    exact ⟨m1, m2, m3, m4, m5, by rw [m6]; exact decide_eq_decide.2 (by constructor <;> intro _ <;> omega), by omega⟩
  · have hnl : ¬ e ≤ (i : Int) := by rw [m6] at q1; exact of_decide_eq_false q1
    rw [q2] at hok ⊢
    rw [← hw]
    rw [← hw] at hsz2
    have hl := lay_td m1 (D := D.extract 0 (wrN (midS s e i) D room).toNat) (by have h5 := q3; have h6 := hen; have h7 := hr.2; omega)
    rw [q3] at hl
    refine ⟨hok, m2, m3, fun x => ?_, ?_, ?_, hsz2⟩
    · rw [hl.2 x, m4, hen, ByteArray.size_append]
      have : ((A.size + (D.extract 0 (wrN (midS s e i) D room).toNat).size : Nat) : Int) = (A.size : Int) + wrN (midS s e i) D room := by have h5 := q3; omega
      rw [this]
      omega
    · show (midS s e i).d ++ _ = _
      rw [m5]
    · show (midS s e i).fin = _
      rw [m6]
      exact decide_eq_decide.2 (by constructor <;> intro _ <;> omega)
theorem WrI.count {A : ByteArray} {e : Int} {s : SS} {i : Nat} (h : WrI A e s i) (hi : i ≤ 20) : size s.td = (A.size : Int) ∧ en s = (A.size : Int) := by
  have hsz := h.sz
  have e1 := is_fromL (a := 0) (b := (A.size : Int)) (by omega) (by omega) h.ok.ct h.td
  refine ⟨?_, by unfold en; rw [h.ba, h.d]; omega⟩
  rw [e1]
  unfold fromL
  split
  · simp only [size]; omega
  · simp only [size]; omega
end Go.Proofs.Ytedijfcagkedaaa.Rg
