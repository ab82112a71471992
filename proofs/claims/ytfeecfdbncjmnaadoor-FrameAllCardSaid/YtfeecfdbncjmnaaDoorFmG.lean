/- The walks of layer 6: the texts, the first byte, Elicits. By tools/gen-frame-6.py. -/
import Derived.Test.YtfeecfdbncjmnaaDoorFmC
namespace Go.Proofs.YtfeecfdbncjmnaaDoor.Fm
set_option maxRecDepth 20000
open Go.RowKit Vm
set_option linter.unusedVariables false
set_option linter.unusedSimpArgs false

set_option maxHeartbeats 2000000 in
theorem texts_any (f : Frm) (w : World) : Calls Tryd.prog 28 #[.agg #[.int .u64 f.kind, .int .u64 f.id, .int .u64 f.off, .int .u64 f.max, .int .u64 f.code, .int .u64 f.seq, .int .u64 f.prior, .int .u64 f.delay, .bool f.fin, .string ⟨f.data.toArray⟩, .string ⟨f.cid.toArray⟩, .string ⟨f.token.toArray⟩, .slice f.set.a f.set.n f.set.c]] w fun e w' => e = .returned (.agg #[.string ⟨f.data.toArray⟩, .string ⟨f.cid.toArray⟩, .string ⟨f.token.toArray⟩]) ∧ Below w.heap.size w w' := by
  go_enter Tryd.func28, Tryd.ntmps28
  go_wp2
  (try go_region)
  all_goals (try go_wp2)
  all_goals
    refine bodyPost_ret (v := .agg #[.string ⟨f.data.toArray⟩, .string ⟨f.cid.toArray⟩, .string ⟨f.token.toArray⟩]) (by simp [results, Tryd.results28, go_sem, *]) rfl ⟨rfl, ?_⟩
    repeat' (first | exact Below.refl _ _ | (refine below_drewN ?_ 1) | (refine Below.setCell ?_ ?hc _; case hc => simp; done) | (refine Below.alloc ?_ ?ha _; case ha => simp; done))
/-- A frame's first byte. -/
def fstN (f : Frm) : Int := if f.kind = 8 then 10 + (if f.fin = true then 1 else 0) + (if f.off = 0 then 0 else 4) else f.kind
set_option maxHeartbeats 2000000 in
theorem first_true0 (f : Frm) (w : World) (h1 : (f.kind != 8) = false) (h2 : f.fin = true) (h3 : (f.off != 0) = false) : Calls Tryd.prog 44 #[.agg #[.int .u64 f.kind, .int .u64 f.id, .int .u64 f.off, .int .u64 f.max, .int .u64 f.code, .int .u64 f.seq, .int .u64 f.prior, .int .u64 f.delay, .bool f.fin, .string ⟨f.data.toArray⟩, .string ⟨f.cid.toArray⟩, .string ⟨f.token.toArray⟩, .slice f.set.a f.set.n f.set.c]] w fun e w' => e = .returned (.int .u64 11) ∧ Below w.heap.size w w' := by
  have e1 : bits .or .u64 10 1 = 11 := by decide
  go_enter Tryd.func44, Tryd.ntmps44
  go_wp2
  go_ret
  exact ⟨rfl, (Below.refl _ _).alloc (Nat.le_refl _) _⟩
set_option maxHeartbeats 2000000 in
theorem first_true1 (f : Frm) (w : World) (h1 : (f.kind != 8) = false) (h2 : f.fin = true) (h3 : (f.off != 0) = true) : Calls Tryd.prog 44 #[.agg #[.int .u64 f.kind, .int .u64 f.id, .int .u64 f.off, .int .u64 f.max, .int .u64 f.code, .int .u64 f.seq, .int .u64 f.prior, .int .u64 f.delay, .bool f.fin, .string ⟨f.data.toArray⟩, .string ⟨f.cid.toArray⟩, .string ⟨f.token.toArray⟩, .slice f.set.a f.set.n f.set.c]] w fun e w' => e = .returned (.int .u64 15) ∧ Below w.heap.size w w' := by
  have e1 : bits .or .u64 10 1 = 11 := by decide
  have e2 : bits .or .u64 11 4 = 15 := by decide
  go_enter Tryd.func44, Tryd.ntmps44
  go_wp2
  go_ret
  exact ⟨rfl, (Below.refl _ _).alloc (Nat.le_refl _) _⟩
set_option maxHeartbeats 2000000 in
theorem first_false0 (f : Frm) (w : World) (h1 : (f.kind != 8) = false) (h2 : f.fin = false) (h3 : (f.off != 0) = false) : Calls Tryd.prog 44 #[.agg #[.int .u64 f.kind, .int .u64 f.id, .int .u64 f.off, .int .u64 f.max, .int .u64 f.code, .int .u64 f.seq, .int .u64 f.prior, .int .u64 f.delay, .bool f.fin, .string ⟨f.data.toArray⟩, .string ⟨f.cid.toArray⟩, .string ⟨f.token.toArray⟩, .slice f.set.a f.set.n f.set.c]] w fun e w' => e = .returned (.int .u64 10) ∧ Below w.heap.size w w' := by
  go_enter Tryd.func44, Tryd.ntmps44
  go_wp2
  go_ret
  exact ⟨rfl, (Below.refl _ _).alloc (Nat.le_refl _) _⟩
set_option maxHeartbeats 2000000 in
theorem first_false1 (f : Frm) (w : World) (h1 : (f.kind != 8) = false) (h2 : f.fin = false) (h3 : (f.off != 0) = true) : Calls Tryd.prog 44 #[.agg #[.int .u64 f.kind, .int .u64 f.id, .int .u64 f.off, .int .u64 f.max, .int .u64 f.code, .int .u64 f.seq, .int .u64 f.prior, .int .u64 f.delay, .bool f.fin, .string ⟨f.data.toArray⟩, .string ⟨f.cid.toArray⟩, .string ⟨f.token.toArray⟩, .slice f.set.a f.set.n f.set.c]] w fun e w' => e = .returned (.int .u64 14) ∧ Below w.heap.size w w' := by
  have e2 : bits .or .u64 10 4 = 14 := by decide
  go_enter Tryd.func44, Tryd.ntmps44
  go_wp2
  go_ret
  exact ⟨rfl, (Below.refl _ _).alloc (Nat.le_refl _) _⟩
set_option maxHeartbeats 2000000 in
theorem first_other (f : Frm) (w : World) (h1 : (f.kind != 8) = true) : Calls Tryd.prog 44 #[.agg #[.int .u64 f.kind, .int .u64 f.id, .int .u64 f.off, .int .u64 f.max, .int .u64 f.code, .int .u64 f.seq, .int .u64 f.prior, .int .u64 f.delay, .bool f.fin, .string ⟨f.data.toArray⟩, .string ⟨f.cid.toArray⟩, .string ⟨f.token.toArray⟩, .slice f.set.a f.set.n f.set.c]] w fun e w' => e = .returned (.int .u64 f.kind) ∧ Below w.heap.size w w' := by
  go_enter Tryd.func44, Tryd.ntmps44
  go_wp2
  go_ret
  exact ⟨rfl, (Below.refl _ _).alloc (Nat.le_refl _) _⟩
set_option maxHeartbeats 1000000 in
theorem first_any (f : Frm) (w : World) : Calls Tryd.prog 44 #[.agg #[.int .u64 f.kind, .int .u64 f.id, .int .u64 f.off, .int .u64 f.max, .int .u64 f.code, .int .u64 f.seq, .int .u64 f.prior, .int .u64 f.delay, .bool f.fin, .string ⟨f.data.toArray⟩, .string ⟨f.cid.toArray⟩, .string ⟨f.token.toArray⟩, .slice f.set.a f.set.n f.set.c]] w fun e w' => e = .returned (.int .u64 (fstN f)) ∧ Below w.heap.size w w' := by
  by_cases h : f.kind = 8
  · have h1 : (f.kind != 8) = false := by rw [h]; rfl
    by_cases h2 : f.fin = true
    · by_cases h3 : f.off = 0
      · have e : fstN f = 11 := by simp [fstN, h, h2, h3]
        rw [e]; exact first_true0 f w h1 h2 (by rw [h3]; rfl)
      · have e : fstN f = 15 := by simp [fstN, h, h2, h3]
        rw [e]; exact first_true1 f w h1 h2 (by rw [bne_iff_ne]; exact h3)
    · have h2 : f.fin = false := by simpa using h2
      by_cases h3 : f.off = 0
      · have e : fstN f = 10 := by simp [fstN, h, h2, h3]
        rw [e]; exact first_false0 f w h1 h2 (by rw [h3]; rfl)
      · have e : fstN f = 14 := by simp [fstN, h, h2, h3]
        rw [e]; exact first_false1 f w h1 h2 (by rw [bne_iff_ne]; exact h3)
  · have e : fstN f = f.kind := by simp [fstN, h]
    rw [e]; exact first_other f w (by rw [bne_iff_ne]; exact h)
/-- Whether a packet with it has to be acknowledged. -/
def elB (k : Int) : Bool := !(k == 0 || k == 2 || k == 28 || k == 29)
set_option maxHeartbeats 2000000 in
theorem elicits_any (f : Frm) (w : World) : Calls Tryd.prog 17 #[.agg #[.int .u64 f.kind, .int .u64 f.id, .int .u64 f.off, .int .u64 f.max, .int .u64 f.code, .int .u64 f.seq, .int .u64 f.prior, .int .u64 f.delay, .bool f.fin, .string ⟨f.data.toArray⟩, .string ⟨f.cid.toArray⟩, .string ⟨f.token.toArray⟩, .slice f.set.a f.set.n f.set.c]] w fun e w' => e = .returned (.bool (elB f.kind)) ∧ Below w.heap.size w w' := by
  by_cases k0 : f.kind = 0
  · have e : elB f.kind = false := by rw [k0]; rfl
    rw [e]
    have c0 : (f.kind == 0) = true := by rw [k0]; rfl
    clear e k0
    go_enter Tryd.func17, Tryd.ntmps17
    go_wp2
    go_ret
    exact ⟨rfl, (Below.refl _ _).alloc (Nat.le_refl _) _⟩
  have c0 : (f.kind == 0) = false := beq_eq_false_iff_ne.2 k0
  by_cases k2 : f.kind = 2
  · have e : elB f.kind = false := by rw [k2]; rfl
    rw [e]
    have c2 : (f.kind == 2) = true := by rw [k2]; rfl
    clear e k0 k2
    go_enter Tryd.func17, Tryd.ntmps17
    go_wp2
    go_ret
    exact ⟨rfl, (Below.refl _ _).alloc (Nat.le_refl _) _⟩
  have c2 : (f.kind == 2) = false := beq_eq_false_iff_ne.2 k2
  by_cases k28 : f.kind = 28
  · have e : elB f.kind = false := by rw [k28]; rfl
    rw [e]
    have c28 : (f.kind == 28) = true := by rw [k28]; rfl
    clear e k0 k2 k28
    go_enter Tryd.func17, Tryd.ntmps17
    go_wp2
    go_ret
    exact ⟨rfl, (Below.refl _ _).alloc (Nat.le_refl _) _⟩
  have c28 : (f.kind == 28) = false := beq_eq_false_iff_ne.2 k28
  by_cases k29 : f.kind = 29
  · have e : elB f.kind = false := by rw [k29]; rfl
    rw [e]
    have c29 : (f.kind == 29) = true := by rw [k29]; rfl
    clear e k0 k2 k28 k29
    go_enter Tryd.func17, Tryd.ntmps17
    go_wp2
    go_ret
    exact ⟨rfl, (Below.refl _ _).alloc (Nat.le_refl _) _⟩
  have c29 : (f.kind == 29) = false := beq_eq_false_iff_ne.2 k29
  have e : elB f.kind = true := by unfold elB; rw [c0, c2, c28, c29]; rfl
  rw [e]
  clear e k0 k2 k28 k29
  go_enter Tryd.func17, Tryd.ntmps17
  go_wp2
  go_ret
  exact ⟨rfl, (Below.refl _ _).alloc (Nat.le_refl _) _⟩
end Go.Proofs.YtfeecfdbncjmnaaDoor.Fm
