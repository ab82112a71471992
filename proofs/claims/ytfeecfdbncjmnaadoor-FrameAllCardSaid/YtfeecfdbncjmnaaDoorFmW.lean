/- The walks of layer 6: May. -/
import Derived.Test.YtfeecfdbncjmnaaDoorFmV
namespace Go.Proofs.YtfeecfdbncjmnaaDoor.Fm
set_option maxRecDepth 20000
open Go.RowKit Vm
set_option linter.unusedVariables false
set_option linter.unusedSimpArgs false

/-- No bit of a number lies outside another's. -/
theorem andNot_sub (a p : Nat) (ha : a < 2 ^ 64) (hp : p < 2 ^ 64) : (bits .andNot .u64 (a : Int) (p : Int) == 0) = decide (a &&& p = a) := by
  have h1 : (BitVec.ofInt 64 (a : Int)).toNat = a := by
    rw [BitVec.ofInt_natCast, BitVec.toNat_ofNat]; exact Nat.mod_eq_of_lt ha
  have h2 : (BitVec.ofInt 64 (p : Int)).toNat = p := by
    rw [BitVec.ofInt_natCast, BitVec.toNat_ofNat]; exact Nat.mod_eq_of_lt hp
  have h3 : bits .andNot .u64 (a : Int) (p : Int) = IntKind.u64.wrap ((BitVec.ofInt 64 (a : Int) &&& ~~~ BitVec.ofInt 64 (p : Int)).toNat : Int) := rfl
  rw [h3, IntKind.wrap_u64]
  generalize BitVec.ofInt 64 (a : Int) = A at *
  generalize BitVec.ofInt 64 (p : Int) = B at *
  have h4 : ((((A &&& ~~~ B).toNat : Int) % 18446744073709551616 == 0) = true) ↔ A &&& ~~~ B = 0#64 := by
    rw [beq_iff_eq]
    have := (A &&& ~~~ B).isLt
    constructor
    · intro h; apply BitVec.eq_of_toNat_eq; rw [BitVec.toNat_ofNat]; omega
    · intro h; rw [h]; rfl
  have h5 : A &&& ~~~ B = 0#64 ↔ A &&& B = A := by
    constructor
    · intro h
      apply BitVec.eq_of_getLsbD_eq
      intro i hi
      have := congrArg (fun x : BitVec 64 => x.getLsbD i) h
      simp only [BitVec.getLsbD_and, BitVec.getLsbD_not, BitVec.getLsbD_zero, hi, decide_true, Bool.true_and] at this ⊢
      cases ha : A.getLsbD i <;> cases hb : B.getLsbD i <;> simp_all
    · intro h
      rw [← h]
      apply BitVec.eq_of_getLsbD_eq
      intro i hi
      simp only [BitVec.getLsbD_and, BitVec.getLsbD_not, BitVec.getLsbD_zero, hi, decide_true, Bool.true_and]
      cases A.getLsbD i <;> cases B.getLsbD i <;> rfl
  have h6 : A &&& B = A ↔ a &&& p = a := by
    rw [← h1, ← h2, ← BitVec.toNat_and]
    exact ⟨fun h => by rw [h], fun h => BitVec.eq_of_toNat_eq h⟩
  rw [Bool.eq_iff_iff, h4, h5, h6, decide_eq_true_iff]
theorem filN_lt (f : Frm) : filN f < 4096 := by
  have := fT_lt f 3
  unfold filN
  split <;> split <;> omega
/-- Whether a frame may be; k: its kind, l: the ranges of its Set. -/
def mayF (k : Nat) (f : Frm) (l : List Ran) : Bool := (partsN k).isSome && (decide (filN f &&& (partsN k).getD 0 = filN f) && bndB f l)
theorem partsN_lt (k : Nat) : (partsN k).getD 0 < 8192 := by
  unfold partsN
  split <;> decide
set_option maxHeartbeats 4000000 in
theorem may_frame (k : Nat) (f : Frm) (l : List Ran) (w : World) (hk : f.kind = (k : Nat)) (hrd : Rd w (.slice f.set.a f.set.n f.set.c) l) (hu : ∀ x ∈ l, 0 ≤ x.1 ∧ 0 ≤ x.2) (ho : 0 ≤ f.off) :
    Calls Tryd.prog 19 #[.agg #[.int .u64 f.kind, .int .u64 f.id, .int .u64 f.off, .int .u64 f.max, .int .u64 f.code, .int .u64 f.seq, .int .u64 f.prior, .int .u64 f.delay, .bool f.fin, .string ⟨f.data.toArray⟩, .string ⟨f.cid.toArray⟩, .string ⟨f.token.toArray⟩, .slice f.set.a f.set.n f.set.c]] w fun e w' => e = .returned (.bool (mayF k f l)) ∧ Below w.heap.size w w' := by
  have CP := Lib.hid (fun w => partsOf_any k w)
  rw [← hk] at CP
  have CF := Lib.hid (fun w => filled_any f w)
  have CB := Lib.hid (fun w hrd => bounded_any f l w hrd hu ho)
  have HM : Hid (mayF k f l = ((partsN k).isSome && (decide (filN f &&& (partsN k).getD 0 = filN f) && bndB f l))) := Lib.hid rfl
  have hA := andNot_sub (filN f) ((partsN k).getD 0) (Nat.lt_trans (filN_lt f) (by decide)) (Nat.lt_trans (partsN_lt k) (by decide))
  unfold pR at CP
  generalize (partsN k).isSome = ok at *
  generalize (partsN k).getD 0 = p at *
  generalize filN f = F at *
  generalize bndB f l = R at *
  rw [← hA] at HM
  clear hA
  have HR := Lib.hid hrd
  clear hrd hk
  have HB0 : Hid (Below w.heap.size w (w.alloc (.cells #[.int .u64 f.kind, .int .u64 f.id, .int .u64 f.off, .int .u64 f.max, .int .u64 f.code, .int .u64 f.seq, .int .u64 f.prior, .int .u64 f.delay, .bool f.fin, .string ⟨f.data.toArray⟩, .string ⟨f.cid.toArray⟩, .string ⟨f.token.toArray⟩, .slice f.set.a f.set.n f.set.c] 27 (0, 0)))) := Lib.hid ((Below.refl w.heap.size w).alloc (Nat.le_refl _) _)
  cases ok with
  | false =>
    rw [Bool.false_and] at HM
    go_enter Tryd.func19, Tryd.ntmps19
    go_wp2_with fail
    refine (CP.out _).mono ?_
    rintro e w1 ⟨rfl, rfl⟩
    go_wp2
    go_ret
    exact ⟨by rw [HM.out]; rfl, HB0.out⟩
  | true =>
    rw [Bool.true_and] at HM
    cases hq : (bits .andNot .u64 (F : Int) (p : Int) == 0) with
    | false =>
      rw [hq, Bool.false_and] at HM
      go_enter Tryd.func19, Tryd.ntmps19
      go_wp2_with fail
      refine (CP.out _).mono ?_
      rintro e w1 ⟨rfl, rfl⟩
      go_wp2_with fail
      refine (CF.out _).mono ?_
      rintro e w2 ⟨rfl, hb⟩
      have HB2 := Lib.hid (HB0.out.trans (hb.mono (by simp)))
      clear hb
      go_wp2
      go_ret
      exact ⟨by rw [HM.out]; rfl, HB2.out⟩
    | true =>
      rw [hq, Bool.true_and] at HM
      go_enter Tryd.func19, Tryd.ntmps19
      go_wp2_with fail
      refine (CP.out _).mono ?_
      rintro e w1 ⟨rfl, rfl⟩
      go_wp2_with fail
      refine (CF.out _).mono ?_
      rintro e w2 ⟨rfl, hb⟩
      have HB2 := Lib.hid (HB0.out.trans (hb.mono (by simp)))
      have hF : w2.heap[w.heap.size]? = some (.cells #[.int .u64 f.kind, .int .u64 f.id, .int .u64 f.off, .int .u64 f.max, .int .u64 f.code, .int .u64 f.seq, .int .u64 f.prior, .int .u64 f.delay, .bool f.fin, .string ⟨f.data.toArray⟩, .string ⟨f.cid.toArray⟩, .string ⟨f.token.toArray⟩, .slice f.set.a f.set.n f.set.c] 27 (0, 0)) := (hb.block _ (by simp)).trans (World.alloc_heap_new w _)
      have c0 : w2.cell? ⟨w.heap.size, 0, none⟩ = some (.int .u64 f.kind) := Lib.cell_of_heap hF 0
      have c1 : w2.cell? ⟨w.heap.size, 1, none⟩ = some (.int .u64 f.id) := Lib.cell_of_heap hF 1
      have c2 : w2.cell? ⟨w.heap.size, 2, none⟩ = some (.int .u64 f.off) := Lib.cell_of_heap hF 2
      have c3 : w2.cell? ⟨w.heap.size, 3, none⟩ = some (.int .u64 f.max) := Lib.cell_of_heap hF 3
      have c4 : w2.cell? ⟨w.heap.size, 4, none⟩ = some (.int .u64 f.code) := Lib.cell_of_heap hF 4
      have c5 : w2.cell? ⟨w.heap.size, 5, none⟩ = some (.int .u64 f.seq) := Lib.cell_of_heap hF 5
      have c6 : w2.cell? ⟨w.heap.size, 6, none⟩ = some (.int .u64 f.prior) := Lib.cell_of_heap hF 6
      have c7 : w2.cell? ⟨w.heap.size, 7, none⟩ = some (.int .u64 f.delay) := Lib.cell_of_heap hF 7
      have c8 : w2.cell? ⟨w.heap.size, 8, none⟩ = some (.bool f.fin) := Lib.cell_of_heap hF 8
      have c9 : w2.cell? ⟨w.heap.size, 9, none⟩ = some (.string ⟨f.data.toArray⟩) := Lib.cell_of_heap hF 9
      have c10 : w2.cell? ⟨w.heap.size, 10, none⟩ = some (.string ⟨f.cid.toArray⟩) := Lib.cell_of_heap hF 10
      have c11 : w2.cell? ⟨w.heap.size, 11, none⟩ = some (.string ⟨f.token.toArray⟩) := Lib.cell_of_heap hF 11
      have c12 : w2.cell? ⟨w.heap.size, 12, none⟩ = some (.slice f.set.a f.set.n f.set.c) := Lib.cell_of_heap hF 12
      clear hb hF
      go_wp2_with fail
      refine (CB.out _ (HR.out.below HB2.out)).mono ?_
      rintro e w3 ⟨rfl, hb⟩
      have HB3 := Lib.hid (HB2.out.trans (hb.mono HB2.out.size))
      clear hb
      go_wp2
      go_ret
      exact ⟨by rw [HM.out]; rfl, HB3.out⟩
end Go.Proofs.YtfeecfdbncjmnaaDoor.Fm
