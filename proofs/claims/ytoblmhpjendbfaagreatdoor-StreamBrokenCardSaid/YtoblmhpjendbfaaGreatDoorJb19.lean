/- The walks of layer 6: what of a frame is filled -/
import Derived.Test.YtoblmhpjendbfaaGreatDoorJb18
namespace Go.Proofs.YtoblmhpjendbfaaGreatDoor.Fm
set_option maxRecDepth 20000
open Go.RowKit Vm
set_option linter.unusedVariables false
set_option linter.unusedSimpArgs false

/-- A frame's numbers, and texts, in the order of the parts. -/
def nm (f : Frm) : Nat → Int
  | 0 => f.id
  | 1 => f.off
  | 2 => f.code
  | 3 => f.max
  | 4 => f.seq
  | 5 => f.prior
  | _ => f.delay
def txF (f : Frm) : Nat → List UInt8
  | 0 => f.data
  | 1 => f.cid
  | _ => f.token
/-- The bits of the numbers, then of the texts, that are filled. -/
def fN (f : Frm) : Nat → Nat
  | 0 => 0
  | i + 1 => if nm f i = 0 then fN f i else fN f i + 2 ^ i
def fT (f : Frm) : Nat → Nat
  | 0 => fN f 7
  | i + 1 => if txF f i = [] then fT f i else fT f i + 2 ^ (7 + i)
def filN (f : Frm) : Nat := (fT f 3 + (if f.fin = true then 1024 else 0)) + (if 0 < f.set.n then 2048 else 0)
theorem fN_lt (f : Frm) : ∀ i, fN f i < 2 ^ i
  | 0 => Nat.zero_lt_one
  | i + 1 => by
    have := fN_lt f i
    rw [fN, Nat.pow_succ]
    split <;> omega
theorem fT_lt (f : Frm) : ∀ i, fT f i < 2 ^ (7 + i)
  | 0 => fN_lt f 7
  | i + 1 => by
    have := fT_lt f i
    rw [fT, ← Nat.add_assoc, Nat.pow_succ]
    split <;> omega
/-- A bit laid on a number that is less. -/
theorem orB (i P : Nat) (hP : P < 2 ^ i) (hi : i ≤ 62) : bits .or .u64 (P : Int) ((2 ^ i : Nat) : Int) = ((P + 2 ^ i : Nat) : Int) := by
  have hp : 2 ^ i ≤ 2 ^ 62 := Nat.pow_le_pow_right (by omega) hi
  have h1 : (BitVec.ofInt 64 (P : Int)).toNat = P := by
    rw [BitVec.ofInt_natCast, BitVec.toNat_ofNat]; exact Nat.mod_eq_of_lt (by omega)
  have h2 : (BitVec.ofInt 64 ((2 ^ i : Nat) : Int)).toNat = 2 ^ i := by
    rw [BitVec.ofInt_natCast, BitVec.toNat_ofNat]; exact Nat.mod_eq_of_lt (by omega)
  have h3 := Nat.shiftLeft_add_eq_or_of_lt hP 1
  rw [Nat.shiftLeft_eq, Nat.one_mul] at h3
  show IntKind.u64.wrap ((BitVec.ofInt 64 (P : Int) ||| BitVec.ofInt 64 ((2 ^ i : Nat) : Int)).toNat : Int) = _
  rw [BitVec.toNat_or, h1, h2, IntKind.wrap_u64, Nat.or_comm, ← h3]
  omega
/-- An array of three texts by value, at an index that fits: its cell. -/
theorem run_index_txt3 (cs : Array Value) (i : Nat) (v : Value) (w : World) (hn : i < 3) (hv : cs[i]? = some v) : (Instr.index 150 (.agg cs) (.int .i64 (i : Nat))).run Tryz.prog w = .ok v w := by
  have h : ((i : Nat) : Int) < 3 := by omega
  have hsz : (Tryz.prog.info? 9).isSome = true := by kernel_rfl
  obtain ⟨inf, hinf⟩ := Option.isSome_iff_exists.1 hsz
  have hc : Tryz.prog.cellsOf 9 = 1 := by kernel_rfl
  simp [Instr.index, run_underlying Tryz.underlying150, asIntOf, h, run_sizeOf (w := w) hinf, hc, part, isAgg, run_underlying Tryz.underlying9, hv, go_sem]
  intro h2
  omega
set_option maxHeartbeats 8000000 in
theorem filled_any (f : Frm) (w : World) : Calls Tryz.prog 124 #[.agg #[.int .u64 f.kind, .int .u64 f.id, .int .u64 f.off, .int .u64 f.max, .int .u64 f.code, .int .u64 f.seq, .int .u64 f.prior, .int .u64 f.delay, .bool f.fin, .string ⟨f.data.toArray⟩, .string ⟨f.cid.toArray⟩, .string ⟨f.token.toArray⟩, .slice f.set.a f.set.n f.set.c]] w fun e w' => e = .returned (.int .u64 (filN f : Nat)) ∧ Below w.heap.size w w' := by
  have CN := Lib.hid (fun w => numbers_any f w)
  have CX := Lib.hid (fun w => texts_any f w)
  have hI0 := fun (u : World) => run_index_num7 #[.int .u64 f.id, .int .u64 f.off, .int .u64 f.code, .int .u64 f.max, .int .u64 f.seq, .int .u64 f.prior, .int .u64 f.delay] 0 (.int .u64 f.id) u (by decide) rfl
  have hI1 := fun (u : World) => run_index_num7 #[.int .u64 f.id, .int .u64 f.off, .int .u64 f.code, .int .u64 f.max, .int .u64 f.seq, .int .u64 f.prior, .int .u64 f.delay] 1 (.int .u64 f.off) u (by decide) rfl
  have hI2 := fun (u : World) => run_index_num7 #[.int .u64 f.id, .int .u64 f.off, .int .u64 f.code, .int .u64 f.max, .int .u64 f.seq, .int .u64 f.prior, .int .u64 f.delay] 2 (.int .u64 f.code) u (by decide) rfl
  have hI3 := fun (u : World) => run_index_num7 #[.int .u64 f.id, .int .u64 f.off, .int .u64 f.code, .int .u64 f.max, .int .u64 f.seq, .int .u64 f.prior, .int .u64 f.delay] 3 (.int .u64 f.max) u (by decide) rfl
  have hI4 := fun (u : World) => run_index_num7 #[.int .u64 f.id, .int .u64 f.off, .int .u64 f.code, .int .u64 f.max, .int .u64 f.seq, .int .u64 f.prior, .int .u64 f.delay] 4 (.int .u64 f.seq) u (by decide) rfl
  have hI5 := fun (u : World) => run_index_num7 #[.int .u64 f.id, .int .u64 f.off, .int .u64 f.code, .int .u64 f.max, .int .u64 f.seq, .int .u64 f.prior, .int .u64 f.delay] 5 (.int .u64 f.prior) u (by decide) rfl
  have hI6 := fun (u : World) => run_index_num7 #[.int .u64 f.id, .int .u64 f.off, .int .u64 f.code, .int .u64 f.max, .int .u64 f.seq, .int .u64 f.prior, .int .u64 f.delay] 6 (.int .u64 f.delay) u (by decide) rfl
  have hJ0 := fun (u : World) => run_index_txt3 #[.string ⟨f.data.toArray⟩, .string ⟨f.cid.toArray⟩, .string ⟨f.token.toArray⟩] 0 (.string ⟨f.data.toArray⟩) u (by decide) rfl
  have hJ1 := fun (u : World) => run_index_txt3 #[.string ⟨f.data.toArray⟩, .string ⟨f.cid.toArray⟩, .string ⟨f.token.toArray⟩] 1 (.string ⟨f.cid.toArray⟩) u (by decide) rfl
  have hJ2 := fun (u : World) => run_index_txt3 #[.string ⟨f.data.toArray⟩, .string ⟨f.cid.toArray⟩, .string ⟨f.token.toArray⟩] 2 (.string ⟨f.token.toArray⟩) u (by decide) rfl
  go_enter Tryz.func124, Tryz.ntmps124
  go_wp2_with fail
  refine (CN.out _).mono ?_
  rintro e w1 ⟨rfl, hb⟩
  have HB1 := Lib.hid (((Below.refl w.heap.size w).alloc (Nat.le_refl _) _).trans (hb.mono (by simp)))
  have hF : w1.heap[w.heap.size]? = some (.cells #[.int .u64 f.kind, .int .u64 f.id, .int .u64 f.off, .int .u64 f.max, .int .u64 f.code, .int .u64 f.seq, .int .u64 f.prior, .int .u64 f.delay, .bool f.fin, .string ⟨f.data.toArray⟩, .string ⟨f.cid.toArray⟩, .string ⟨f.token.toArray⟩, .slice f.set.a f.set.n f.set.c] 48 (0, 0)) := (hb.block _ (by simp)).trans (World.alloc_heap_new w _)
  have HF := Lib.hid hF
  clear hb hF
  go_wp2
  go_loop [3, 10] (fun pv iv => ∃ k : Nat, k ≤ 7 ∧ iv = .int .i64 (k : Nat) ∧ pv = .int .u64 (fN f k : Nat)) (fun _ iv => 7 - (intOf iv).toNat)
  case atStart => exact ⟨0, by decide, rfl, rfl⟩
  case round =>
    obtain ⟨k, hk, rfl, rfl⟩ := hrel
    match k, hk with
    | 0, _ =>
      have hlt := fN_lt f 0
      by_cases h : f.id = 0
      · have hx : Hid (fN f 1 = fN f 0) := Lib.hid (by rw [fN]; exact if_pos h)
        have h1 : (f.id != 0) = false := by rw [h]; rfl
        generalize fN f 0 = P at hx hlt ⊢
        clear h
        go_wp2_with fail
        erw [hI0]
        go_wp2
        go_round
        case rel => exact ⟨1, by decide, rfl, by rw [hx.out]⟩
        case measure => simp [intOf]
      · have hx : Hid (fN f 1 = fN f 0 + 2 ^ 0) := Lib.hid (by rw [fN]; exact if_neg h)
        have h1 : (f.id != 0) = true := by rw [bne_iff_ne]; exact h
        generalize fN f 0 = P at hx hlt ⊢
        have ho : bits .or .u64 (P : Int) 1 = ((P + 1 : Nat) : Int) := orB 0 P hlt (by decide)
        clear h
        go_wp2_with fail
        erw [hI0]
        go_wp2
        go_round
        case rel => exact ⟨1, by decide, rfl, by rw [hx.out]; rfl⟩
        case measure => simp [intOf]
    | 1, _ =>
      have hlt := fN_lt f 1
      by_cases h : f.off = 0
      · have hx : Hid (fN f 2 = fN f 1) := Lib.hid (by rw [fN]; exact if_pos h)
        have h1 : (f.off != 0) = false := by rw [h]; rfl
        generalize fN f 1 = P at hx hlt ⊢
        clear h
        go_wp2_with fail
        erw [hI1]
        go_wp2
        go_round
        case rel => exact ⟨2, by decide, rfl, by rw [hx.out]⟩
        case measure => simp [intOf]
      · have hx : Hid (fN f 2 = fN f 1 + 2 ^ 1) := Lib.hid (by rw [fN]; exact if_neg h)
        have h1 : (f.off != 0) = true := by rw [bne_iff_ne]; exact h
        generalize fN f 1 = P at hx hlt ⊢
        have ho : bits .or .u64 (P : Int) 2 = ((P + 2 : Nat) : Int) := orB 1 P hlt (by decide)
        clear h
        go_wp2_with fail
        erw [hI1]
        go_wp2
        go_round
        case rel => exact ⟨2, by decide, rfl, by rw [hx.out]; rfl⟩
        case measure => simp [intOf]
    | 2, _ =>
      have hlt := fN_lt f 2
      by_cases h : f.code = 0
      · have hx : Hid (fN f 3 = fN f 2) := Lib.hid (by rw [fN]; exact if_pos h)
        have h1 : (f.code != 0) = false := by rw [h]; rfl
        generalize fN f 2 = P at hx hlt ⊢
        clear h
        go_wp2_with fail
        erw [hI2]
        go_wp2
        go_round
        case rel => exact ⟨3, by decide, rfl, by rw [hx.out]⟩
        case measure => simp [intOf]
      · have hx : Hid (fN f 3 = fN f 2 + 2 ^ 2) := Lib.hid (by rw [fN]; exact if_neg h)
        have h1 : (f.code != 0) = true := by rw [bne_iff_ne]; exact h
        generalize fN f 2 = P at hx hlt ⊢
        have ho : bits .or .u64 (P : Int) 4 = ((P + 4 : Nat) : Int) := orB 2 P hlt (by decide)
        clear h
        go_wp2_with fail
        erw [hI2]
        go_wp2
        go_round
        case rel => exact ⟨3, by decide, rfl, by rw [hx.out]; rfl⟩
        case measure => simp [intOf]
    | 3, _ =>
      have hlt := fN_lt f 3
      by_cases h : f.max = 0
      · have hx : Hid (fN f 4 = fN f 3) := Lib.hid (by rw [fN]; exact if_pos h)
        have h1 : (f.max != 0) = false := by rw [h]; rfl
        generalize fN f 3 = P at hx hlt ⊢
        clear h
        go_wp2_with fail
        erw [hI3]
        go_wp2
        go_round
        case rel => exact ⟨4, by decide, rfl, by rw [hx.out]⟩
        case measure => simp [intOf]
      · have hx : Hid (fN f 4 = fN f 3 + 2 ^ 3) := Lib.hid (by rw [fN]; exact if_neg h)
        have h1 : (f.max != 0) = true := by rw [bne_iff_ne]; exact h
        generalize fN f 3 = P at hx hlt ⊢
        have ho : bits .or .u64 (P : Int) 8 = ((P + 8 : Nat) : Int) := orB 3 P hlt (by decide)
        clear h
        go_wp2_with fail
        erw [hI3]
        go_wp2
        go_round
        case rel => exact ⟨4, by decide, rfl, by rw [hx.out]; rfl⟩
        case measure => simp [intOf]
    | 4, _ =>
      have hlt := fN_lt f 4
      by_cases h : f.seq = 0
      · have hx : Hid (fN f 5 = fN f 4) := Lib.hid (by rw [fN]; exact if_pos h)
        have h1 : (f.seq != 0) = false := by rw [h]; rfl
        generalize fN f 4 = P at hx hlt ⊢
        clear h
        go_wp2_with fail
        erw [hI4]
        go_wp2
        go_round
        case rel => exact ⟨5, by decide, rfl, by rw [hx.out]⟩
        case measure => simp [intOf]
      · have hx : Hid (fN f 5 = fN f 4 + 2 ^ 4) := Lib.hid (by rw [fN]; exact if_neg h)
        have h1 : (f.seq != 0) = true := by rw [bne_iff_ne]; exact h
        generalize fN f 4 = P at hx hlt ⊢
        have ho : bits .or .u64 (P : Int) 16 = ((P + 16 : Nat) : Int) := orB 4 P hlt (by decide)
        clear h
        go_wp2_with fail
        erw [hI4]
        go_wp2
        go_round
        case rel => exact ⟨5, by decide, rfl, by rw [hx.out]; rfl⟩
        case measure => simp [intOf]
    | 5, _ =>
      have hlt := fN_lt f 5
      by_cases h : f.prior = 0
      · have hx : Hid (fN f 6 = fN f 5) := Lib.hid (by rw [fN]; exact if_pos h)
        have h1 : (f.prior != 0) = false := by rw [h]; rfl
        generalize fN f 5 = P at hx hlt ⊢
        clear h
        go_wp2_with fail
        erw [hI5]
        go_wp2
        go_round
        case rel => exact ⟨6, by decide, rfl, by rw [hx.out]⟩
        case measure => simp [intOf]
      · have hx : Hid (fN f 6 = fN f 5 + 2 ^ 5) := Lib.hid (by rw [fN]; exact if_neg h)
        have h1 : (f.prior != 0) = true := by rw [bne_iff_ne]; exact h
        generalize fN f 5 = P at hx hlt ⊢
        have ho : bits .or .u64 (P : Int) 32 = ((P + 32 : Nat) : Int) := orB 5 P hlt (by decide)
        clear h
        go_wp2_with fail
        erw [hI5]
        go_wp2
        go_round
        case rel => exact ⟨6, by decide, rfl, by rw [hx.out]; rfl⟩
        case measure => simp [intOf]
    | 6, _ =>
      have hlt := fN_lt f 6
      by_cases h : f.delay = 0
      · have hx : Hid (fN f 7 = fN f 6) := Lib.hid (by rw [fN]; exact if_pos h)
        have h1 : (f.delay != 0) = false := by rw [h]; rfl
        generalize fN f 6 = P at hx hlt ⊢
        clear h
        go_wp2_with fail
        erw [hI6]
        go_wp2
        go_round
        case rel => exact ⟨7, by decide, rfl, by rw [hx.out]⟩
        case measure => simp [intOf]
      · have hx : Hid (fN f 7 = fN f 6 + 2 ^ 6) := Lib.hid (by rw [fN]; exact if_neg h)
        have h1 : (f.delay != 0) = true := by rw [bne_iff_ne]; exact h
        generalize fN f 6 = P at hx hlt ⊢
        have ho : bits .or .u64 (P : Int) 64 = ((P + 64 : Nat) : Int) := orB 6 P hlt (by decide)
        clear h
        go_wp2_with fail
        erw [hI6]
        go_wp2
        go_round
        case rel => exact ⟨7, by decide, rfl, by rw [hx.out]; rfl⟩
        case measure => simp [intOf]
    | 7, _ =>
      have h0 : fN f 7 = fT f 0 := rfl
      rw [h0]
      clear h0
      have c0 : w1.cell? ⟨w.heap.size, 0, none⟩ = some (.int .u64 f.kind) := Lib.cell_of_heap HF.out 0
      have c1 : w1.cell? ⟨w.heap.size, 1, none⟩ = some (.int .u64 f.id) := Lib.cell_of_heap HF.out 1
      have c2 : w1.cell? ⟨w.heap.size, 2, none⟩ = some (.int .u64 f.off) := Lib.cell_of_heap HF.out 2
      have c3 : w1.cell? ⟨w.heap.size, 3, none⟩ = some (.int .u64 f.max) := Lib.cell_of_heap HF.out 3
      have c4 : w1.cell? ⟨w.heap.size, 4, none⟩ = some (.int .u64 f.code) := Lib.cell_of_heap HF.out 4
      have c5 : w1.cell? ⟨w.heap.size, 5, none⟩ = some (.int .u64 f.seq) := Lib.cell_of_heap HF.out 5
      have c6 : w1.cell? ⟨w.heap.size, 6, none⟩ = some (.int .u64 f.prior) := Lib.cell_of_heap HF.out 6
      have c7 : w1.cell? ⟨w.heap.size, 7, none⟩ = some (.int .u64 f.delay) := Lib.cell_of_heap HF.out 7
      have c8 : w1.cell? ⟨w.heap.size, 8, none⟩ = some (.bool f.fin) := Lib.cell_of_heap HF.out 8
      have c9 : w1.cell? ⟨w.heap.size, 9, none⟩ = some (.string ⟨f.data.toArray⟩) := Lib.cell_of_heap HF.out 9
      have c10 : w1.cell? ⟨w.heap.size, 10, none⟩ = some (.string ⟨f.cid.toArray⟩) := Lib.cell_of_heap HF.out 10
      have c11 : w1.cell? ⟨w.heap.size, 11, none⟩ = some (.string ⟨f.token.toArray⟩) := Lib.cell_of_heap HF.out 11
      have c12 : w1.cell? ⟨w.heap.size, 12, none⟩ = some (.slice f.set.a f.set.n f.set.c) := Lib.cell_of_heap HF.out 12
      go_wp2_with fail
      refine (CX.out _).mono ?_
      rintro e w2 ⟨rfl, hb⟩
      have hlt1 : w.heap.size < w1.heap.size := World.block_lt_of_cell? _ _ c0
      have HB2 := Lib.hid (HB1.out.trans (hb.mono (by omega)))
      have hF2 := (hb.block _ hlt1).trans HF.out
      have d8 : w2.cell? ⟨w.heap.size, 8, none⟩ = some (.bool f.fin) := Lib.cell_of_heap hF2 8
      have d12 : w2.cell? ⟨w.heap.size, 12, none⟩ = some (.slice f.set.a f.set.n f.set.c) := Lib.cell_of_heap hF2 12
      clear hb hF2 c0 c1 c2 c3 c4 c5 c6 c7 c8 c9 c10 c11 c12
      go_wp2
      go_loop [3, 23] (fun pv iv => ∃ k : Nat, k ≤ 3 ∧ iv = .int .i64 (k : Nat) ∧ pv = .int .u64 (fT f k : Nat)) (fun _ iv => 3 - (intOf iv).toNat)
      case atStart => exact ⟨0, by decide, rfl, rfl⟩
      case round =>
        obtain ⟨k, hk, rfl, rfl⟩ := hrel
        match k, hk with
        | 0, _ =>
          have hlt := fT_lt f 0
          by_cases h : f.data = []
          · have hx : Hid (fT f 1 = fT f 0) := Lib.hid (by rw [fT]; exact if_pos h)
            have h1 : f.data.isEmpty = true := by rw [h]; rfl
            generalize fT f 0 = P at hx hlt ⊢
            clear h
            go_wp2_with fail
            erw [hJ0]
            go_wp2
            go_round
            case rel => exact ⟨1, by decide, rfl, by rw [hx.out]⟩
            case measure => simp [intOf]
          · have hx : Hid (fT f 1 = fT f 0 + 2 ^ (7 + 0)) := Lib.hid (by rw [fT]; exact if_neg h)
            have h1 : f.data.isEmpty = false := by cases hz : f.data with | nil => exact absurd hz h | cons => rfl
            generalize fT f 0 = P at hx hlt ⊢
            have ho : bits .or .u64 (P : Int) 128 = ((P + 128 : Nat) : Int) := orB (7 + 0) P hlt (by decide)
            clear h
            go_wp2_with fail
            erw [hJ0]
            go_wp2
            go_round
            case rel => exact ⟨1, by decide, rfl, by rw [hx.out]; rfl⟩
            case measure => simp [intOf]
        | 1, _ =>
          have hlt := fT_lt f 1
          by_cases h : f.cid = []
          · have hx : Hid (fT f 2 = fT f 1) := Lib.hid (by rw [fT]; exact if_pos h)
            have h1 : f.cid.isEmpty = true := by rw [h]; rfl
            generalize fT f 1 = P at hx hlt ⊢
            clear h
            go_wp2_with fail
            erw [hJ1]
            go_wp2
            go_round
            case rel => exact ⟨2, by decide, rfl, by rw [hx.out]⟩
            case measure => simp [intOf]
          · have hx : Hid (fT f 2 = fT f 1 + 2 ^ (7 + 1)) := Lib.hid (by rw [fT]; exact if_neg h)
            have h1 : f.cid.isEmpty = false := by cases hz : f.cid with | nil => exact absurd hz h | cons => rfl
            generalize fT f 1 = P at hx hlt ⊢
            have ho : bits .or .u64 (P : Int) 256 = ((P + 256 : Nat) : Int) := orB (7 + 1) P hlt (by decide)
            clear h
            go_wp2_with fail
            erw [hJ1]
            go_wp2
            go_round
            case rel => exact ⟨2, by decide, rfl, by rw [hx.out]; rfl⟩
            case measure => simp [intOf]
        | 2, _ =>
          have hlt := fT_lt f 2
          by_cases h : f.token = []
          · have hx : Hid (fT f 3 = fT f 2) := Lib.hid (by rw [fT]; exact if_pos h)
            have h1 : f.token.isEmpty = true := by rw [h]; rfl
            generalize fT f 2 = P at hx hlt ⊢
            clear h
            go_wp2_with fail
            erw [hJ2]
            go_wp2
            go_round
            case rel => exact ⟨3, by decide, rfl, by rw [hx.out]⟩
            case measure => simp [intOf]
          · have hx : Hid (fT f 3 = fT f 2 + 2 ^ (7 + 2)) := Lib.hid (by rw [fT]; exact if_neg h)
            have h1 : f.token.isEmpty = false := by cases hz : f.token with | nil => exact absurd hz h | cons => rfl
            generalize fT f 2 = P at hx hlt ⊢
            have ho : bits .or .u64 (P : Int) 512 = ((P + 512 : Nat) : Int) := orB (7 + 2) P hlt (by decide)
            clear h
            go_wp2_with fail
            erw [hJ2]
            go_wp2
            go_round
            case rel => exact ⟨3, by decide, rfl, by rw [hx.out]; rfl⟩
            case measure => simp [intOf]
        | 3, _ =>
          have hlt := fT_lt f 3
          have hx : Hid (filN f = (fT f 3 + (if f.fin = true then 1024 else 0)) + (if 0 < f.set.n then 2048 else 0)) := Lib.hid rfl
          generalize fT f 3 = P at hx hlt ⊢
          have o1 : bits .or .u64 (P : Int) 1024 = ((P + 1024 : Nat) : Int) := orB 10 P hlt (by decide)
          have o2 : bits .or .u64 (P : Int) 2048 = ((P + 2048 : Nat) : Int) := orB 11 P (by omega) (by decide)
          have o3 : bits .or .u64 ((P : Int) + 1024) 2048 = ((P + 1024 + 2048 : Nat) : Int) := orB 11 (P + 1024) (by omega) (by decide)
          by_cases hf : f.fin = true
          · by_cases hs : 0 < f.set.n
            · have hs1 : (0 : Int) < (f.set.n : Int) := by omega
              rw [if_pos hf, if_pos hs] at hx
              clear hs
              go_wp2
              go_ret
              exact ⟨by rw [hx.out]; simp only [o3]; rfl, HB2.out⟩
            · have hs1 : ¬ (0 : Int) < (f.set.n : Int) := by omega
              rw [if_pos hf, if_neg hs] at hx
              clear hs
              go_wp2
              go_ret
              exact ⟨by rw [hx.out]; simp only [o1]; rfl, HB2.out⟩
          · have hf : f.fin = false := by simpa using hf
            by_cases hs : 0 < f.set.n
            · have hs1 : (0 : Int) < (f.set.n : Int) := by omega
              rw [if_neg (by rw [hf]; decide), if_pos hs] at hx
              clear hs
              go_wp2
              go_ret
              exact ⟨by rw [hx.out]; simp only [o2]; rfl, HB2.out⟩
            · have hs1 : ¬ (0 : Int) < (f.set.n : Int) := by omega
              rw [if_neg (by rw [hf]; decide), if_neg hs] at hx
              clear hs
              go_wp2
              go_ret
              exact ⟨by rw [hx.out]; rfl, HB2.out⟩
end Go.Proofs.YtoblmhpjendbfaaGreatDoor.Fm
