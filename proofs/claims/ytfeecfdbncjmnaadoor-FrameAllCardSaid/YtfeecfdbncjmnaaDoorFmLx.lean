/- Layer 6: what of FmLw the joined texts leave out. By tools/pack.py. -/
import Derived.Test.YtfeecfdbncjmnaaDoorFzB
namespace Go.Proofs.YtfeecfdbncjmnaaDoor.Fm
set_option maxRecDepth 20000
open Go.RowKit Vm
set_option linter.unusedVariables false
set_option linter.unusedSimpArgs false
/-- A law's bound. -/
def lbB (f : Frm) : Bool := decide ((f.data.length : Int) ≤ 1300) && (decide ((f.cid.length : Int) ≤ 100) && (decide ((f.token.length : Int) ≤ 100) && decide ((f.set.n : Int) ≤ 50)))
set_option maxHeartbeats 4000000 in
theorem bounded_law (f : Frm) (w : World) : Calls Tryd.prog 15 #[.agg #[.int .u64 f.kind, .int .u64 f.id, .int .u64 f.off, .int .u64 f.max, .int .u64 f.code, .int .u64 f.seq, .int .u64 f.prior, .int .u64 f.delay, .bool f.fin, .string ⟨f.data.toArray⟩, .string ⟨f.cid.toArray⟩, .string ⟨f.token.toArray⟩, .slice f.set.a f.set.n f.set.c]] w fun e w' => e = .returned (.bool (lbB f)) ∧ Below w.heap.size w w' := by
  have HB0 : Hid (Below w.heap.size w (w.alloc (.cells #[.int .u64 f.kind, .int .u64 f.id, .int .u64 f.off, .int .u64 f.max, .int .u64 f.code, .int .u64 f.seq, .int .u64 f.prior, .int .u64 f.delay, .bool f.fin, .string ⟨f.data.toArray⟩, .string ⟨f.cid.toArray⟩, .string ⟨f.token.toArray⟩, .slice f.set.a f.set.n f.set.c] 27 (0, 0)))) := Lib.hid ((Below.refl w.heap.size w).alloc (Nat.le_refl _) _)
  have HD : Hid (lbB f = (decide ((f.data.length : Int) ≤ 1300) && (decide ((f.cid.length : Int) ≤ 100) && (decide ((f.token.length : Int) ≤ 100) && decide ((f.set.n : Int) ≤ 50))))) := Lib.hid rfl
  generalize lbB f = R at *
  by_cases h1 : (f.data.length : Int) ≤ 1300
  · by_cases h2 : (f.cid.length : Int) ≤ 100
    · by_cases h3 : (f.token.length : Int) ≤ 100
      · by_cases h4 : (f.set.n : Int) ≤ 50
        · rw [decide_eq_true h1, decide_eq_true h2, decide_eq_true h3, decide_eq_true h4] at HD
          go_enter Tryd.func15, Tryd.ntmps15
          go_wp2
          go_ret
          exact ⟨by rw [HD.out]; rfl, HB0.out⟩
        · rw [decide_eq_true h1, decide_eq_true h2, decide_eq_true h3, decide_eq_false h4] at HD
          go_enter Tryd.func15, Tryd.ntmps15
          go_wp2
          go_ret
          exact ⟨by rw [HD.out]; rfl, HB0.out⟩
      · rw [decide_eq_true h1, decide_eq_true h2, decide_eq_false h3, Bool.false_and] at HD
        go_enter Tryd.func15, Tryd.ntmps15
        go_wp2
        go_ret
        exact ⟨by rw [HD.out]; rfl, HB0.out⟩
    · rw [decide_eq_true h1, decide_eq_false h2, Bool.false_and] at HD
      go_enter Tryd.func15, Tryd.ntmps15
      go_wp2
      go_ret
      exact ⟨by rw [HD.out]; rfl, HB0.out⟩
  · rw [decide_eq_false h1, Bool.false_and] at HD
    go_enter Tryd.func15, Tryd.ntmps15
    go_wp2
    go_ret
    exact ⟨by rw [HD.out]; rfl, HB0.out⟩
theorem lbB_yes {f : Frm} (h : lbB f = true) : f.data.length ≤ 1300 ∧ f.cid.length ≤ 100 ∧ f.token.length ≤ 100 ∧ f.set.n ≤ 50 := by
  unfold lbB at h
  rw [Bool.and_eq_true, Bool.and_eq_true, Bool.and_eq_true, decide_eq_true_iff, decide_eq_true_iff, decide_eq_true_iff, decide_eq_true_iff] at h
  omega
theorem ext_suf (pre r : List UInt8) : (⟨(pre ++ r).toArray⟩ : ByteArray).extract pre.length (pre.length + r.length) = ⟨r.toArray⟩ := by
  apply ByteArray.ext
  simp
/-- The numbers of a set, as the mathematics has them. -/
def rsOf (l : List Ran) : List (Nat × Nat) := l.map fun p => (p.1.toNat, p.2.toNat)
theorem rsOf_len (l : List Ran) : (rsOf l).length = l.length := by simp [rsOf]
theorem ints_rsOf {l : List Ran} (h : ∀ x ∈ l, 0 ≤ x.1 ∧ 0 ≤ x.2) : ints (rsOf l) = l := by
  unfold ints rsOf
  rw [List.map_map]
  conv => rhs; rw [← List.map_id l]
  refine List.map_congr_left fun x hx => ?_
  obtain ⟨a, b⟩ := x
  obtain ⟨h1, h2⟩ := h _ hx
  simp only at h1 h2
  show (((a.toNat : Nat) : Int), ((b.toNat : Nat) : Int)) = (a, b)
  rw [Int.toNat_of_nonneg h1, Int.toNat_of_nonneg h2]
end Go.Proofs.YtfeecfdbncjmnaaDoor.Fm
