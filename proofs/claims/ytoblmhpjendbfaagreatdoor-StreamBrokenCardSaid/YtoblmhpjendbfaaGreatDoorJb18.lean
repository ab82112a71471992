/- The walks of layer 6: the texts, the first byte, Elicits · The walks of layer 6: read, with what its reader answers · The walks of layer 6: readTexts, by the texts that the parts have · The walks of layer 6: readTexts of a Cid and a Token · The walks of layer 6: a reader's frame, of a kind without a Set · The walks of layer 6: a reader's frame, where something is not there · The walks of layer 6: what read comes to, of bytes whose kind has no Set. · The walks of layer 6: an own slice of ranges; slices.Reverse. · What a strings.Builder that the call itself made does: WriteString at this program (its copy check passes at the builder's own place). · The walks of layer 6: reader.ack's panicking ways · The walks of layer 6: read of bytes whose kind has a Set. · The walks of layer 6: ranges.May (of layer 3's texts XRgA, XRgW, without what they import); acknowledges. · The walks of layer 6: acknowledges. -/
import Derived.Test.YtoblmhpjendbfaaGreatDoorJb17
import Derived.Tactics
import Derived.Tactics2
import Derived.Defers
import Derived.Recover
import Derived.Laws.Pointers
import Derived.Deep.RegionWith
import Derived.Deep.RegionHeld3
import Derived.Test.YtoblmhpjendbfaaGreatDoorJb16
import Derived.Laws.OwnMore
import Derived.Test.YtoblmhpjendbfaaGreatDoorRows
import Derived.Test.YtoblmhpjendbfaaGreatDoorShelf
import Derived.Shelf.Strings.Builder1
import Derived.Shelf.Strings.BuilderF
import Derived.Lib.Hide
import Derived.Lib.AppendZeros
namespace Go.Proofs.YtoblmhpjendbfaaGreatDoor.Fm
set_option maxRecDepth 20000
open Go.RowKit Vm
set_option linter.unusedVariables false
set_option linter.unusedSimpArgs false

set_option maxHeartbeats 2000000 in
theorem texts_any (f : Frm) (w : World) : Calls Tryz.prog 89 #[.agg #[.int .u64 f.kind, .int .u64 f.id, .int .u64 f.off, .int .u64 f.max, .int .u64 f.code, .int .u64 f.seq, .int .u64 f.prior, .int .u64 f.delay, .bool f.fin, .string ⟨f.data.toArray⟩, .string ⟨f.cid.toArray⟩, .string ⟨f.token.toArray⟩, .slice f.set.a f.set.n f.set.c]] w fun e w' => e = .returned (.agg #[.string ⟨f.data.toArray⟩, .string ⟨f.cid.toArray⟩, .string ⟨f.token.toArray⟩]) ∧ Below w.heap.size w w' := by
  go_enter Tryz.func89, Tryz.ntmps89
  go_wp2
  (try go_region)
  all_goals (try go_wp2)
  all_goals
    refine bodyPost_ret (v := .agg #[.string ⟨f.data.toArray⟩, .string ⟨f.cid.toArray⟩, .string ⟨f.token.toArray⟩]) (by simp [results, Tryz.results89, go_sem, *]) rfl ⟨rfl, ?_⟩
    repeat' (first | exact Below.refl _ _ | (refine below_drewN ?_ 1) | (refine Below.setCell ?_ ?hc _; case hc => simp; done) | (refine Below.alloc ?_ ?ha _; case ha => simp; done))
/-- A frame's first byte. -/
def fstN (f : Frm) : Int := if f.kind = 8 then 10 + (if f.fin = true then 1 else 0) + (if f.off = 0 then 0 else 4) else f.kind
set_option maxHeartbeats 2000000 in
theorem first_true0 (f : Frm) (w : World) (h1 : (f.kind != 8) = false) (h2 : f.fin = true) (h3 : (f.off != 0) = false) : Calls Tryz.prog 126 #[.agg #[.int .u64 f.kind, .int .u64 f.id, .int .u64 f.off, .int .u64 f.max, .int .u64 f.code, .int .u64 f.seq, .int .u64 f.prior, .int .u64 f.delay, .bool f.fin, .string ⟨f.data.toArray⟩, .string ⟨f.cid.toArray⟩, .string ⟨f.token.toArray⟩, .slice f.set.a f.set.n f.set.c]] w fun e w' => e = .returned (.int .u64 11) ∧ Below w.heap.size w w' := by
  have e1 : bits .or .u64 10 1 = 11 := by decide
  go_enter Tryz.func126, Tryz.ntmps126
  go_wp2
  go_ret
  exact ⟨rfl, (Below.refl _ _).alloc (Nat.le_refl _) _⟩
set_option maxHeartbeats 2000000 in
theorem first_true1 (f : Frm) (w : World) (h1 : (f.kind != 8) = false) (h2 : f.fin = true) (h3 : (f.off != 0) = true) : Calls Tryz.prog 126 #[.agg #[.int .u64 f.kind, .int .u64 f.id, .int .u64 f.off, .int .u64 f.max, .int .u64 f.code, .int .u64 f.seq, .int .u64 f.prior, .int .u64 f.delay, .bool f.fin, .string ⟨f.data.toArray⟩, .string ⟨f.cid.toArray⟩, .string ⟨f.token.toArray⟩, .slice f.set.a f.set.n f.set.c]] w fun e w' => e = .returned (.int .u64 15) ∧ Below w.heap.size w w' := by
  have e1 : bits .or .u64 10 1 = 11 := by decide
  have e2 : bits .or .u64 11 4 = 15 := by decide
  go_enter Tryz.func126, Tryz.ntmps126
  go_wp2
  go_ret
  exact ⟨rfl, (Below.refl _ _).alloc (Nat.le_refl _) _⟩
set_option maxHeartbeats 2000000 in
theorem first_false0 (f : Frm) (w : World) (h1 : (f.kind != 8) = false) (h2 : f.fin = false) (h3 : (f.off != 0) = false) : Calls Tryz.prog 126 #[.agg #[.int .u64 f.kind, .int .u64 f.id, .int .u64 f.off, .int .u64 f.max, .int .u64 f.code, .int .u64 f.seq, .int .u64 f.prior, .int .u64 f.delay, .bool f.fin, .string ⟨f.data.toArray⟩, .string ⟨f.cid.toArray⟩, .string ⟨f.token.toArray⟩, .slice f.set.a f.set.n f.set.c]] w fun e w' => e = .returned (.int .u64 10) ∧ Below w.heap.size w w' := by
  go_enter Tryz.func126, Tryz.ntmps126
  go_wp2
  go_ret
  exact ⟨rfl, (Below.refl _ _).alloc (Nat.le_refl _) _⟩
set_option maxHeartbeats 2000000 in
theorem first_false1 (f : Frm) (w : World) (h1 : (f.kind != 8) = false) (h2 : f.fin = false) (h3 : (f.off != 0) = true) : Calls Tryz.prog 126 #[.agg #[.int .u64 f.kind, .int .u64 f.id, .int .u64 f.off, .int .u64 f.max, .int .u64 f.code, .int .u64 f.seq, .int .u64 f.prior, .int .u64 f.delay, .bool f.fin, .string ⟨f.data.toArray⟩, .string ⟨f.cid.toArray⟩, .string ⟨f.token.toArray⟩, .slice f.set.a f.set.n f.set.c]] w fun e w' => e = .returned (.int .u64 14) ∧ Below w.heap.size w w' := by
  have e2 : bits .or .u64 10 4 = 14 := by decide
  go_enter Tryz.func126, Tryz.ntmps126
  go_wp2
  go_ret
  exact ⟨rfl, (Below.refl _ _).alloc (Nat.le_refl _) _⟩
set_option maxHeartbeats 2000000 in
theorem first_other (f : Frm) (w : World) (h1 : (f.kind != 8) = true) : Calls Tryz.prog 126 #[.agg #[.int .u64 f.kind, .int .u64 f.id, .int .u64 f.off, .int .u64 f.max, .int .u64 f.code, .int .u64 f.seq, .int .u64 f.prior, .int .u64 f.delay, .bool f.fin, .string ⟨f.data.toArray⟩, .string ⟨f.cid.toArray⟩, .string ⟨f.token.toArray⟩, .slice f.set.a f.set.n f.set.c]] w fun e w' => e = .returned (.int .u64 f.kind) ∧ Below w.heap.size w w' := by
  go_enter Tryz.func126, Tryz.ntmps126
  go_wp2
  go_ret
  exact ⟨rfl, (Below.refl _ _).alloc (Nat.le_refl _) _⟩
set_option maxHeartbeats 1000000 in
theorem first_any (f : Frm) (w : World) : Calls Tryz.prog 126 #[.agg #[.int .u64 f.kind, .int .u64 f.id, .int .u64 f.off, .int .u64 f.max, .int .u64 f.code, .int .u64 f.seq, .int .u64 f.prior, .int .u64 f.delay, .bool f.fin, .string ⟨f.data.toArray⟩, .string ⟨f.cid.toArray⟩, .string ⟨f.token.toArray⟩, .slice f.set.a f.set.n f.set.c]] w fun e w' => e = .returned (.int .u64 (fstN f)) ∧ Below w.heap.size w w' := by
  by_cases h : f.kind = 8
  · have h1 : (f.kind != 8) = false := by rw [h]; rfl
    by_cases h2 : f.fin = true
    · by_cases h3 : f.off = 0
      · have e : fstN f = 11 := by simp [fstN, h, h2, h3]
        rw [e]; exact first_true0 f w h1 h2 (by rw [h3]; rfl)
      · have e : fstN f = 15 := by simp [fstN, h, h2, h3]
        rw [e]; exact first_true1 f w h1 h2 (by rw [bne_iff_ne]; exact h3)
    · have h2 : f.fin = false := by simpa using h2
      by_cases h3 : f.off = 0
      · have e : fstN f = 10 := by simp [fstN, h, h2, h3]
        rw [e]; exact first_false0 f w h1 h2 (by rw [h3]; rfl)
      · have e : fstN f = 14 := by simp [fstN, h, h2, h3]
        rw [e]; exact first_false1 f w h1 h2 (by rw [bne_iff_ne]; exact h3)
  · have e : fstN f = f.kind := by simp [fstN, h]
    rw [e]; exact first_other f w (by rw [bne_iff_ne]; exact h)
end Go.Proofs.YtoblmhpjendbfaaGreatDoor.Fm
namespace Go.Proofs.YtoblmhpjendbfaaGreatDoor.Fm
set_option maxRecDepth 20000
open Go.RowKit Vm
set_option linter.unusedVariables false
set_option linter.unusedSimpArgs false

/-- The zero frame. -/
def frZ : Frm := ⟨0, 0, 0, 0, 0, 0, 0, 0, false, [], [], [], ⟨none, 0, 0⟩⟩
end Go.Proofs.YtoblmhpjendbfaaGreatDoor.Fm
namespace Go.Proofs.YtoblmhpjendbfaaGreatDoor.Fm
set_option maxRecDepth 20000
open Go.RowKit Vm
set_option linter.unusedVariables false
set_option linter.unusedSimpArgs false

/-- Which texts the parts have: Data, Data without a length, Cid, Token. -/
def tx (p : Nat) : Bool × Bool × Bool × Bool := (p.testBit 7, p.testBit 12, p.testBit 8, p.testBit 9)
theorem bitF (p i : Nat) (hp : p < 8192) (hi : 2 ^ i < 8192) (b : Bool) (h : p.testBit i = b) : (bits .and .u64 ((p : Nat) : Int) ((2 ^ i : Nat) : Int) != 0) = b := by
  rw [and_u64 p (2 ^ i) hp hi, bit_ne, h]
end Go.Proofs.YtoblmhpjendbfaaGreatDoor.Fm
namespace Go.Proofs.YtoblmhpjendbfaaGreatDoor.Fm
set_option maxRecDepth 20000
open Go.RowKit Vm
set_option linter.unusedVariables false
set_option linter.unusedSimpArgs false

end Go.Proofs.YtoblmhpjendbfaaGreatDoor.Fm
namespace Go.Proofs.YtoblmhpjendbfaaGreatDoor.Fm
set_option maxRecDepth 20000
open Go.RowKit Vm
set_option linter.unusedVariables false
set_option linter.unusedSimpArgs false

theorem toldP_lt : ∀ n, toldP n < 8192 := by
  intro n
  unfold toldP
  split
  all_goals first | decide | skip
  unfold partsN
  split <;> decide
end Go.Proofs.YtoblmhpjendbfaaGreatDoor.Fm
namespace Go.Proofs.YtoblmhpjendbfaaGreatDoor.Fm
set_option maxRecDepth 20000
open Go.RowKit Vm
set_option linter.unusedVariables false
set_option linter.unusedSimpArgs false

end Go.Proofs.YtoblmhpjendbfaaGreatDoor.Fm
namespace Go.Proofs.YtoblmhpjendbfaaGreatDoor.Fm
set_option maxRecDepth 20000
open Go.RowKit Vm
set_option linter.unusedVariables false
set_option linter.unusedSimpArgs false

/-- The patterns of parts that there are. -/
def okP (p : Nat) : Bool :=
  if p.testBit 7 then !p.testBit 12 && !p.testBit 8 && !p.testBit 9
  else if p.testBit 12 then !p.testBit 8 && !p.testBit 9
  else if p.testBit 8 then p.testBit 9 else true
theorem toldP_ok : ∀ n, okP (toldP n) = true := by
  intro n
  unfold toldP
  split
  all_goals first | decide | skip
  unfold partsN
  split <;> decide
end Go.Proofs.YtoblmhpjendbfaaGreatDoor.Fm
namespace Go.Proofs.YtoblmhpjendbfaaGreatDoor.Fm
set_option maxRecDepth 20000
open Go.RowKit Vm
set_option linter.unusedVariables false

def flatV (l : List (Nat × Nat)) : List Value := l.flatMap fun p => [.int .u64 p.1, .int .u64 p.2]
theorem flatV_get (l : List (Nat × Nat)) : ∀ k, k < l.length → (flatV l)[k * 2]? = some (.int .u64 (l.getD k (0, 0)).1) ∧ (flatV l)[k * 2 + 1]? = some (.int .u64 (l.getD k (0, 0)).2) := by
  induction l with
  | nil => intro k h; simp at h
  | cons x l ih =>
    intro k h
    have e : flatV (x :: l) = .int .u64 x.1 :: .int .u64 x.2 :: flatV l := by simp [flatV]
    rw [e]
    cases k with
    | zero => exact ⟨rfl, rfl⟩
    | succ k =>
      have := ih k (by simp at h; omega)
      rw [show (k + 1) * 2 = k * 2 + 1 + 1 by omega]
      simpa using this
theorem flatV_set (l : List (Nat × Nat)) : ∀ (k : Nat) (p : Nat × Nat), flatV (l.set k p) = ((flatV l).set (k * 2) (.int .u64 p.1)).set (k * 2 + 1) (.int .u64 p.2) := by
  induction l with
  | nil => intro k p; rfl
  | cons x l ih =>
    intro k p
    have e : ∀ y : Nat × Nat, ∀ m, flatV (y :: m) = .int .u64 y.1 :: .int .u64 y.2 :: flatV m := by intro y m; simp [flatV]
    cases k with
    | zero => rw [List.set_cons_zero, e, e]; rfl
    | succ k => rw [List.set_cons_succ, e, e, ih, show (k + 1) * 2 = k * 2 + 1 + 1 by omega]; rfl
/-- A slice of ranges of the call's own. -/
def OwnP (w : World) (B g c : Nat) (l : List (Nat × Nat)) : Prop := w.ownsRow B 153 2 (.slice (some ⟨g, 0, none⟩) l.length c) l.length (flatV l)
theorem OwnP.lt {w : World} {B g c : Nat} {l : List (Nat × Nat)} (h : OwnP w B g c l) : B ≤ g ∧ g < w.heap.size := World.ownsRow.lt h g rfl
theorem OwnP.cell {w : World} {B g c : Nat} {l : List (Nat × Nat)} (h : OwnP w B g c l) (k : Nat) (hk : k < l.length) : w.cell? ⟨g, k * 2, none⟩ = some (.int .u64 (l.getD k (0, 0)).1) ∧ w.cell? ⟨g, k * 2 + 1, none⟩ = some (.int .u64 (l.getD k (0, 0)).2) := by
  obtain ⟨h1, h2⟩ := flatV_get l k hk
  exact ⟨(h.cellAt (k * 2) (by omega)).trans h1, (h.cellAt (k * 2 + 1) (by omega)).trans h2⟩
theorem OwnP.fz {w : World} {B g c : Nat} {l : List (Nat × Nat)} (h : OwnP w B g c l) (j : Nat) : w.frozen? ⟨g, j, none⟩ = false := h.frozenAt j
theorem OwnP.put {w : World} {B g c : Nat} {l : List (Nat × Nat)} (h : OwnP w B g c l) (k : Nat) (p : Nat × Nat) : OwnP ((w.setCell ⟨g, k * 2, none⟩ (.int .u64 p.1)).setCell ⟨g, k * 2 + 1, none⟩ (.int .u64 p.2)) B g c (l.set k p) := by
  have h1 := (World.ownsRow.stored h (k * 2) (.int .u64 p.1)).1
  have h2 := (World.ownsRow.stored h1 (k * 2 + 1) (.int .u64 p.2)).1
  unfold OwnP
  rw [List.length_set, flatV_set]
  exact h2
theorem OwnP.drew {w : World} {B g c : Nat} {l : List (Nat × Nat)} (h : OwnP w B g c l) : OwnP w.drew B g c l := h
end Go.Proofs.YtoblmhpjendbfaaGreatDoor.Fm
namespace Go.Proofs.YtoblmhpjendbfaaGreatDoor.Bld
set_option maxRecDepth 20000
open Go.RowKit
set_option linter.unusedVariables false

theorem sizeB : (Tryz.prog.info? 142).map (·.size) = some 2 := by kernel_rfl
theorem liesB : liesAt Tryz.prog Tryz.prog.depth 142 (2 / Tryz.prog.cellsOf 142) 0 142 1 = true := by kernel_rfl
theorem infoB : (Tryz.prog.info? 5).map (fun i => (i.zero, i.size, i.bytes)) = some (some (.int .u8 0), 1, 1) := by kernel_rfl

set_option maxHeartbeats 1000000 in
set_option maxRecDepth 100000 in
theorem copyCheck_used (b : Nat) (w : World) (h0 : w.cell? ⟨b, 0, none⟩ = some (.pointer (some ⟨b, 0, none⟩))) :
    Calls Tryz.prog 161 #[.pointer (some ⟨b, 0, none⟩)] w fun e w' => e = .returned (.tuple #[]) ∧ w' = w := by
  obtain ⟨j, hj, _⟩ := Option.map_eq_some_iff.1 sizeB
  go_enter Tryz.func161, Tryz.ntmps161
  go_wp2
  rw [Lib.run_neq_ptr_same w _ Tryz.underlying139 hj]
  go_wp2
  go_end0
  exact ⟨rfl, rfl⟩

set_option maxHeartbeats 1000000 in
set_option maxRecDepth 100000 in
theorem copyCheck_fresh (b : Nat) (w : World) (h0 : w.cell? ⟨b, 0, none⟩ = some (.pointer none)) (hsh : w.shape? b = some (142, 2)) (hfz : w.frozen? ⟨b, 0, none⟩ = false) :
    Calls Tryz.prog 161 #[.pointer (some ⟨b, 0, none⟩)] w fun e w' => e = .returned (.tuple #[]) ∧ w' = w.setCell ⟨b, 0, none⟩ (.pointer (some ⟨b, 0, none⟩)) := by
  obtain ⟨j, hj, hjs⟩ := Option.map_eq_some_iff.1 sizeB
  go_enter Tryz.func161, Tryz.ntmps161
  go_wp2
  rw [Lib.run_to_unsafe w ⟨b, 0, none⟩ Tryz.underlying139 Tryz.underlying238 hj (by rw [hjs]; decide) hsh (Nat.zero_lt_succ 1)]
  simp only [Result.andThen]
  rw [Oper.upon_value]
  go_wp2
  rw [run_callFunc_extern Tryz.func181 (by kernel_rfl) (by kernel_rfl) (by kernel_rfl) (e := Extern.AbiNoEscape.same) (by kernel_rfl)]
  rw [Lib.run_noEscape]
  simp only [Result.andThen]
  rw [Oper.upon_value]
  go_wp2
  rw [Lib.run_from_unsafe w ⟨b, 0, none⟩ Tryz.underlying238 Tryz.underlying139 hj hsh liesB]
  simp only [Result.andThen]
  rw [Oper.upon_value]
  go_wp2
  go_end0
  exact ⟨rfl, rfl⟩

theorem copyCheck (B b : Nat) (bs : List Value) (w : World) (h : Lib.IsBuilder 142 5 B b bs w) :
    Calls Tryz.prog 161 #[.pointer (some ⟨b, 0, none⟩)] w fun e w' => e = .returned (.tuple #[]) ∧ (Lib.BuilderAt 142 5 B b (.pointer (some ⟨b, 0, none⟩)) bs w' ∧ Below B w w') := by
  rcases h with h | h
  · refine (copyCheck_fresh b w h.cell0 h.shape h.frozen0).mono ?_
    rintro e w' ⟨rfl, rfl⟩
    exact ⟨rfl, h.used _, (Below.refl B w).setCell (p := ⟨b, 0, none⟩) h.1 _⟩
  · refine (copyCheck_used b w h.cell0).mono ?_
    rintro e w' ⟨rfl, rfl⟩
    exact ⟨rfl, h, Below.refl B _⟩

set_option maxHeartbeats 2000000 in
set_option maxRecDepth 100000 in
theorem writeString (B b : Nat) (bs : List Value) (s : ByteArray) (w : World) (h : Lib.IsBuilder 142 5 B b bs w) (hlen : bs.length + s.size ≤ 140737488355328) (hBw : B ≤ w.heap.size) :
    Calls Tryz.prog 132 #[.pointer (some ⟨b, 0, none⟩), .string s] w fun e w' => e = .returned (.tuple #[.int .i64 s.size, .nilIface]) ∧ (Lib.IsBuilder 142 5 B b (bs ++ Lib.strCells s) w' ∧ Below B w w') := by
  obtain ⟨i0, hi, hz0, hz1, hz2⟩ := info_parts infoB
  have hi := Lib.hid hi; have hz0 := Lib.hid hz0; have hz1 := Lib.hid hz1; have hz2 := Lib.hid hz2
  go_enter Tryz.func132, Tryz.ntmps132
  go_wp2_with (go_at_call 161; refine (copyCheck B b bs _ h).mono ?_)
  rintro e w1 ⟨rfl, h1, hb1⟩
  obtain ⟨hB, v, hbk, hown, hne⟩ := h1
  have c0 : w1.cell? ⟨b, 0, none⟩ = some (.pointer (some ⟨b, 0, none⟩)) := by rw [Lib.cell_of_heap hbk]; rfl
  have c1 : w1.cell? ⟨b, 1, none⟩ = some v := by rw [Lib.cell_of_heap hbk]; rfl
  go_wp2_with (at_builtin; refine Lib.wpList_append_own_string _ rfl _ _ 140 9 rfl B 5 i0 Tryz.underlying140 Tryz.underlying9 hi.out hz0.out hz1.out hz2.out _ _ _ rfl hown s rfl ?c3 ?c4 ?c5 ?_)
  case c3 => unfold maxLen; omega
  case c4 => omega
  case c5 => have := hb1.size; omega
  intro v' w2 hown' hgrow _
  have hlt : b < w1.heap.size := by
    rcases Nat.lt_or_ge b w1.heap.size with h' | h'
    · exact h'
    · simp [Array.getElem?_eq_none h'] at hbk
  have hb2 : w2.heap[b]? = some (.cells #[.pointer (some ⟨b, 0, none⟩), v] 142 (0, 0)) := by
    rw [hgrow.block b hlt (fun e => hne e.symm)]
    exact hbk
  have d0 : w2.cell? ⟨b, 0, none⟩ = some (.pointer (some ⟨b, 0, none⟩)) := by rw [Lib.cell_of_heap hb2]; rfl
  have d1 : w2.cell? ⟨b, 1, none⟩ = some v := by rw [Lib.cell_of_heap hb2]; rfl
  have f1 : w2.frozen? ⟨b, 1, none⟩ = false := Lib.frozen_of_heap hb2 1
  obtain ⟨ao, n', cap, rfl⟩ : ∃ ao n' cap, v' = .slice ao n' cap := by
    rcases hown'.2 with ⟨hv, _⟩ | ⟨g, cap, cur, hv, _⟩
    · exact ⟨_, _, _, hv⟩
    · exact ⟨_, _, _, hv⟩
  go_wp2
  go_ret2
  refine ⟨rfl, .inr ?_, ?_⟩
  · exact Lib.BuilderAt.put (T := 142) (e := 5) hB hb2 (bs' := bs ++ Lib.strCells s) (by simpa [Lib.strCells_length] using hown') (by decide)
  · exact (hb1.grown hgrow (by have := hb1.size; omega) (fun k hk => (hown.lt k hk).1)).setCell (p := ⟨b, 1, none⟩) hB _
end Go.Proofs.YtoblmhpjendbfaaGreatDoor.Bld
namespace Go.Proofs.YtoblmhpjendbfaaGreatDoor.Fm
set_option maxRecDepth 20000
open Go.RowKit Vm
set_option linter.unusedVariables false
set_option linter.unusedSimpArgs false

theorem OwnP.only {w w' : World} {B g c : Nat} {l : List (Nat × Nat)} {O : Nat → Prop} (h : OwnP w B g c l) (ho : It.Only O w w') (hn : ¬ O g) : OwnP w' B g c l := by
  have hlt := h.lt.2
  rcases h.2 with ⟨hv, _⟩ | ⟨g', cap, cur, hv, hb, hg, r⟩
  · cases hv
  · simp only [Value.slice.injEq, Option.some.injEq, Addr.mk.injEq, and_true, true_and] at hv
    obtain ⟨rfl, rfl⟩ := hv
    exact ⟨h.1, .inr ⟨g, c, cur, rfl, hb, (ho.block g hlt hn).trans hg, r⟩⟩
theorem OwnP.new (w : World) (B : Nat) (p : Nat × Nat) (hb : B ≤ w.heap.size) : OwnP (w.alloc (.cells #[.int .u64 p.1, .int .u64 p.2] 153)) B w.heap.size 1 [p] :=
  World.ownsRow_lit (e := 153) (size := 2) w #[.int .u64 p.1, .int .u64 p.2] 1 hb (by decide) rfl
end Go.Proofs.YtoblmhpjendbfaaGreatDoor.Fm
namespace Go.Proofs.YtoblmhpjendbfaaGreatDoor.Fm
set_option maxRecDepth 20000
open Go.RowKit Vm
set_option linter.unusedVariables false
set_option linter.unusedSimpArgs false

theorem OwnP.base {w : World} {B B' g c : Nat} {l : List (Nat × Nat)} (h : OwnP w B' g c l) (hb : B ≤ B') : OwnP w B g c l :=
  ⟨h.1, h.2.imp id fun ⟨g', cap, cur, hv, hg, r⟩ => ⟨g', cap, cur, hv, Nat.le_trans hb hg, r⟩⟩
end Go.Proofs.YtoblmhpjendbfaaGreatDoor.Fm
namespace Go.Proofs.YtoblmhpjendbfaaGreatDoor.Fm
set_option maxRecDepth 20000
open Go.RowKit Vm
set_option linter.unusedVariables false
set_option linter.unusedSimpArgs false

abbrev Ran := Int × Int
def Rd (w : World) (v : Value) (l : List Ran) : Prop :=
  ∃ a cap, v = .slice a l.length cap ∧ l.length ≤ cap ∧ (l ≠ [] → ∃ b off, a = some ⟨b, off, none⟩ ∧
    ∀ i, i < l.length → w.cell? ⟨b, off + i * 2, none⟩ = some (.int .u64 (l.getD i (0, 0)).1) ∧ w.cell? ⟨b, off + i * 2 + 1, none⟩ = some (.int .u64 (l.getD i (0, 0)).2))
theorem cell_below {A B : World} {n : Nat} (h : Below n A B) {b o : Nat} {v : Value} (hv : A.cell? ⟨b, o, none⟩ = some v) (hb : b < n) : B.cell? ⟨b, o, none⟩ = some v := (h.cell (p := ⟨b, o, none⟩) hb).trans hv

attribute [local go_sem] Oper.semAt_some
theorem getD_get {l : List Ran} {i : Nat} (h : i < l.length) : l.getD i (0, 0) = l[i] := by simp [List.getD, List.getElem?_eq_getElem h]

set_option maxHeartbeats 400000 in
theorem none_any (lo hi : Int) (w : World) : Calls Tryz.prog 195 #[.agg #[.int .u64 lo, .int .u64 hi]] w fun e w' => e = .returned (.bool (decide (hi < lo))) ∧ Below w.heap.size w w' := by
  go_enter Tryz.func195, Tryz.ntmps195
  go_wp2
  go_ret
  exact ⟨rfl, (Below.refl _ _).alloc (Nat.le_refl _) _⟩

def MayP (l : List Ran) : Prop := ∀ i, i < l.length → (l.getD i (0, 0)).1 ≤ (l.getD i (0, 0)).2 ∧ (l.getD i (0, 0)).2 < 9223372036854775808 ∧ (0 < i → (l.getD (i - 1) (0, 0)).2 + 2 ≤ (l.getD i (0, 0)).1)
instance (l : List Ran) : Decidable (MayP l) := inferInstanceAs (Decidable (∀ i, i < l.length → _))
def MayTo (l : List Ran) (k : Nat) : Prop := ∀ i, i < k → (l.getD i (0, 0)).1 ≤ (l.getD i (0, 0)).2 ∧ (l.getD i (0, 0)).2 < 9223372036854775808 ∧ (0 < i → (l.getD (i - 1) (0, 0)).2 + 2 ≤ (l.getD i (0, 0)).1)
def mayB (l : List Ran) : Bool := decide (MayP l)
theorem mayB_no {l : List Ran} (h : ¬ MayP l) : mayB l = false := decide_eq_false h
theorem mayB_yes {l : List Ran} (h : MayP l) : mayB l = true := decide_eq_true h
theorem mayTo_succ {l : List Ran} {k : Nat} (h : MayTo l k) {x : Ran} (hx : l.getD k (0, 0) = x) (h1 : x.1 ≤ x.2) (h2 : x.2 < 9223372036854775808) (h3 : 0 < k → (l.getD (k - 1) (0, 0)).2 + 2 ≤ x.1) : MayTo l (k + 1) := by
  intro i hi
  rcases Nat.lt_or_ge i k with h' | h'
  · exact h i h'
  · obtain rfl : i = k := by omega
    rw [hx]
    exact ⟨h1, h2, h3⟩

set_option maxHeartbeats 1000000 in
theorem may_nil (a : Option Addr) (cap : Nat) (w : World) : Calls Tryz.prog 179 #[.slice a 0 cap] w fun e w' => e = .returned (.bool true) ∧ Below w.heap.size w w' := by
  go_enter Tryz.func179, Tryz.ntmps179
  go_wp2
  refine wp_loop_rounds 1 ?_
  rw [rounds_succ]
  go_wp2
  go_ret
  exact ⟨rfl, Below.refl _ _⟩

set_option maxHeartbeats 2000000 in
theorem may_row (b off n cap : Nat) (l : List Ran) (hln : l.length = n) (hl : n ≤ 1000) (w : World) (hb : b < w.heap.size)
    (hc : ∀ i, i < n → w.cell? ⟨b, off + i * 2, none⟩ = some (.int .u64 (l.getD i (0, 0)).1) ∧ w.cell? ⟨b, off + i * 2 + 1, none⟩ = some (.int .u64 (l.getD i (0, 0)).2))
    (hu : ∀ x ∈ l, 0 ≤ x.1 ∧ 0 ≤ x.2) :
    Calls Tryz.prog 179 #[.slice (some ⟨b, off, none⟩) n cap] w fun e w' => e = .returned (.bool (mayB l)) ∧ Below w.heap.size w w' := by
  have HC := Lib.hid hc
  have HU := Lib.hid hu
  clear hc hu
  go_enter Tryz.func179, Tryz.ntmps179
  go_wp2
  go_loopw [3, 4, 7] (fun _ _ iv wr => ∃ k : Nat, k ≤ n ∧ iv = .int .i64 k ∧ Hid (MayTo l k) ∧ Below w.heap.size w wr) (fun _ _ iv _ => n - (intOf iv).toNat)
  case atStart => exact ⟨0, Nat.zero_le _, rfl, Lib.hid (fun i hi => by omega), Below.refl _ _⟩
  case round =>
    obtain ⟨k, hk, rfl, HM, hbl⟩ := hrel
    have hsz := hbl.size
    by_cases hlt : k < n
    · have hcx := HC.out k hlt
      have hc1 := cell_below hbl hcx.1 hb
      have hc2 := cell_below hbl hcx.2 hb
      have hux := HU.out (l.getD k (0, 0)) (by rw [getD_get (by omega)]; exact List.getElem_mem _)
      have hux1 := hux.1
      have hux2 := hux.2
      obtain ⟨x, hx⟩ : ∃ x, l.getD k (0, 0) = x := ⟨_, rfl⟩
      rw [hx] at hc1 hc2 hux1 hux2
      have HX := Lib.hid hx
      have hcp : 0 < k → wr.cell? ⟨b, off + (k - 1) * 2 + 1, none⟩ = some (.int .u64 (l.getD (k - 1) (0, 0)).2) := fun h => cell_below hbl (HC.out (k - 1) (by omega)).2 hb
      have hpp : 0 < k → 0 ≤ (l.getD (k - 1) (0, 0)).2 ∧ (l.getD (k - 1) (0, 0)).2 < 9223372036854775808 := fun h => ⟨(HU.out (l.getD (k - 1) (0, 0)) (by rw [getD_get (by omega)]; exact List.getElem_mem _)).2, (HM.out (k - 1) (by omega)).2.1⟩
      obtain ⟨lo, hi⟩ := x
      simp only at hc1 hc2 hux1 hux2
      have HNO : Hid (¬ (lo ≤ hi ∧ hi < 9223372036854775808 ∧ (0 < k → (l.getD (k - 1) (0, 0)).2 + 2 ≤ lo)) → mayB l = false) := Lib.hid (fun h => mayB_no (fun hm => h (by have := hm k (by omega); rw [HX.out] at this; exact this)))
      have HYES : Hid (lo ≤ hi → hi < 9223372036854775808 → (0 < k → (l.getD (k - 1) (0, 0)).2 + 2 ≤ lo) → MayTo l (k + 1)) := Lib.hid (fun h1 h2 h3 => mayTo_succ HM.out HX.out h1 h2 h3)
      have hblt : b < wr.heap.size := by omega
      have hbla : Hid (Below w.heap.size w wr) := Lib.hid hbl
      clear hcx hx hux hbl
      go_wp2_with fail
      refine (none_any lo hi _).mono ?_
      rintro e w1 ⟨rfl, hb1⟩
      have hz1 := hb1.size
      rw [World.size_alloc] at hz1 hb1
      have k1 : w1.cell? ⟨wr.heap.size, 0, none⟩ = some (.int .u64 lo) := cell_below hb1 (by simp [go_sem]) (by omega)
      have k2 : w1.cell? ⟨wr.heap.size, 1, none⟩ = some (.int .u64 hi) := cell_below hb1 (by simp [go_sem]) (by omega)
      have hcq : 0 < k → w1.cell? ⟨b, off + (k - 1) * 2 + 1, none⟩ = some (.int .u64 (l.getD (k - 1) (0, 0)).2) := fun h => cell_below hb1 ((World.cell?_alloc_past _ _ _ hblt).trans (hcp h)) (by omega)
      have HB1 : Hid (Below w.heap.size w w1) := Lib.hid ((hbla.out.alloc hsz _).trans (hb1.mono (by omega)))
      clear hb1 hcp hc1 hc2
      by_cases hok : hi < lo
      · have d1 : decide (hi < lo) = true := decide_eq_true hok
        have hn := Lib.hid (HNO.out (fun h => by omega))
        clear hcq hpp
        go_wp2
        go_ret
        exact ⟨by rw [hn.out]; rfl, HB1.out⟩
      · have d1 : decide (hi < lo) = false := decide_eq_false hok
        by_cases hbig : 9223372036854775808 ≤ hi
        · have hn := Lib.hid (HNO.out (fun h => by omega))
          clear hcq hpp
          go_wp2
          go_ret
          exact ⟨by rw [hn.out]; rfl, HB1.out⟩
        · rcases Nat.eq_zero_or_pos k with rfl | hk0
          · have hy := Lib.hid (HYES.out (by omega) (by omega) (fun h => by omega))
            clear hcq hpp
            go_wp2_with fail
            go_quiet (fail)
            go_wp2
            go_roundw
            case rel => exact ⟨0 + 1, by omega, by simp, hy, below_drewN HB1.out _⟩
            case measure => simp [intOf]; omega
          · obtain ⟨j, rfl⟩ : ∃ j, k = j + 1 := ⟨k - 1, by omega⟩
            have hcr := hcq hk0
            have hpr := hpp hk0
            clear hcq hpp
            rw [show j + 1 - 1 = j by omega] at *
            generalize (l.getD j (0, 0)).2 = p at *
            by_cases hgap : lo < p + 2
            · have d2 : decide (lo < p + 2) = true := decide_eq_true hgap
              have hn := Lib.hid (HNO.out (fun h => by have := h.2.2 (by omega); omega))
              go_wp2_with fail
              go_quiet (fail)
              go_wp2
              go_ret
              exact ⟨by rw [hn.out]; rfl, below_drewN HB1.out _⟩
            · have d2 : decide (lo < p + 2) = false := decide_eq_false hgap
              have hy := Lib.hid (HYES.out (by omega) (by omega) (fun h => by omega))
              go_wp2_with fail
              go_quiet (fail)
              go_wp2
              go_roundw
              case rel => exact ⟨j + 1 + 1, by omega, by go_num, hy, below_drewN HB1.out _⟩
              case measure => simp [intOf]; omega
    · obtain rfl : k = n := by omega
      go_wp2
      go_ret
      refine ⟨?_, hbl⟩
      rw [mayB_yes (fun i hi => HM.out i (by omega))]
      rfl
theorem may_any (v : Value) (l : List Ran) (w : World) (hl : l.length ≤ 1000) (hrd : Rd w v l) (hu : ∀ x ∈ l, 0 ≤ x.1 ∧ 0 ≤ x.2) :
    Calls Tryz.prog 179 #[v] w fun e w' => e = .returned (.bool (mayB l)) ∧ Below w.heap.size w w' := by
  obtain ⟨a, cap, rfl, hcap, hrow⟩ := hrd
  by_cases hnil : l = []
  · subst hnil
    refine (may_nil a cap w).mono ?_
    rintro e w' ⟨rfl, hb⟩
    exact ⟨by rw [mayB_yes (fun i hi => by simp at hi)], hb⟩
  · obtain ⟨b, off, rfl, hc⟩ := hrow hnil
    exact may_row b off l.length cap l rfl hl w (World.block_lt_of_cell? w ⟨b, off + 0 * 2, none⟩ (hc 0 (List.length_pos_iff.2 hnil)).1) hc hu
end Go.Proofs.YtoblmhpjendbfaaGreatDoor.Fm
namespace Go.Proofs.YtoblmhpjendbfaaGreatDoor.Fm
set_option maxRecDepth 20000
open Go.RowKit Vm
set_option linter.unusedVariables false
set_option linter.unusedSimpArgs false

/-- Whether a set may be that of an Ack. -/
def ackB (l : List Ran) : Bool := decide (1 ≤ l.length ∧ l.length ≤ 32) && (mayB l && decide ((l.getD (l.length - 1) (0, 0)).2 ≤ 4611686018427387903))
set_option maxHeartbeats 4000000 in
theorem acknowledges_any (v : Value) (l : List Ran) (w : World) (hrd : Rd w v l) (hu : ∀ x ∈ l, 0 ≤ x.1 ∧ 0 ≤ x.2) :
    Calls Tryz.prog 157 #[v] w fun e w' => e = .returned (.bool (ackB l)) ∧ Below w.heap.size w w' := by
  have CM0 := Lib.hid (fun hl => may_any v l w hl hrd hu)
  obtain ⟨a, cap, rfl, hcap, hrow⟩ := hrd
  obtain ⟨n, hn⟩ : ∃ n, l.length = n := ⟨_, rfl⟩
  by_cases h1 : 1 ≤ n
  · by_cases h32 : n ≤ 32
    · have CM := Lib.hid (CM0.out (by omega))
      clear CM0
      obtain ⟨b, off, rfl, hc⟩ := hrow (fun h => by rw [h] at hn; simp at hn; omega)
      have hcn := (hc (n - 1) (by omega)).2
      have hb := World.block_lt_of_cell? _ _ hcn
      obtain ⟨j, hj⟩ : ∃ j, n - 1 = j := ⟨_, rfl⟩
      have hji : (n : Int) - 1 = (j : Int) := by omega
      have HA : Hid (ackB l = (mayB l && decide ((l.getD j (0, 0)).2 ≤ 4611686018427387903))) := Lib.hid (by
        unfold ackB
        rw [hn, hj, decide_eq_true ⟨h1, h32⟩, Bool.true_and])
      rw [hj] at hcn
      rw [hn] at CM ⊢
      have h1i : (1 : Int) ≤ (n : Int) := by omega
      have h32i : (n : Int) ≤ 32 := by omega
      have j0 : (0 : Int) ≤ (j : Int) := by omega
      have j1 : (j : Int) < (n : Int) := by omega
      generalize (l.getD j (0, 0)).2 = hi at *
      generalize ackB l = R at *
      generalize mayB l = mb at *
      clear hc hrow hu hn hj
      cases mb with
      | false =>
        rw [Bool.false_and] at HA
        go_enter Tryz.func157, Tryz.ntmps157
        go_wp2_with fail
        refine CM.out.mono ?_
        rintro e w1 ⟨rfl, hb1⟩
        have HB1 := Lib.hid hb1
        clear hb1
        go_wp2
        go_ret
        exact ⟨by rw [HA.out]; rfl, HB1.out⟩
      | true =>
        rw [Bool.true_and] at HA
        go_enter Tryz.func157, Tryz.ntmps157
        go_wp2_with fail
        refine CM.out.mono ?_
        rintro e w1 ⟨rfl, hb1⟩
        have HB1 := Lib.hid hb1
        have c1 := cell_below hb1 hcn hb
        clear hb1
        go_wp2
        go_ret
        exact ⟨by rw [HA.out]; rfl, HB1.out⟩
    · have h1i : (1 : Int) ≤ (n : Int) := by omega
      have h32i : ¬ (n : Int) ≤ 32 := by omega
      have HA : Hid (ackB l = false) := Lib.hid (by
        unfold ackB
        rw [hn, decide_eq_false (fun h => h32 h.2), Bool.false_and])
      rw [hn]
      clear hrow CM0
      go_enter Tryz.func157, Tryz.ntmps157
      go_wp2
      go_ret
      exact ⟨by rw [HA.out]; rfl, Below.refl _ _⟩
  · have h1i : ¬ (1 : Int) ≤ (n : Int) := by omega
    have HA : Hid (ackB l = false) := Lib.hid (by
      unfold ackB
      rw [hn, decide_eq_false (fun h => h1 h.1), Bool.false_and])
    rw [hn]
    clear hrow CM0
    go_enter Tryz.func157, Tryz.ntmps157
    go_wp2
    go_ret
    exact ⟨by rw [HA.out]; rfl, Below.refl _ _⟩
/-- An own slice of ranges can be read. -/
theorem OwnP.rd {w : World} {B g c : Nat} {l : List (Nat × Nat)} (h : OwnP w B g c l) : Rd w (.slice (some ⟨g, 0, none⟩) l.length c) (l.map fun p => ((p.1 : Int), (p.2 : Int))) := by
  have hc : l.length ≤ c := by
    rcases h.2 with ⟨hv, _⟩ | ⟨g', cap, cur, hv, _, _, hnc, _⟩
    · cases hv
    · simp only [Value.slice.injEq, Option.some.injEq, Addr.mk.injEq, and_true, true_and] at hv
      obtain ⟨rfl, rfl⟩ := hv
      exact hnc
  refine ⟨some ⟨g, 0, none⟩, c, by rw [List.length_map], by rw [List.length_map]; exact hc, fun _ => ⟨g, 0, rfl, fun i hi => ?_⟩⟩
  rw [List.length_map] at hi
  obtain ⟨h1, h2⟩ := h.cell i hi
  have e : (l.map fun p => ((p.1 : Int), (p.2 : Int))).getD i (0, 0) = (((l.getD i (0, 0)).1 : Int), ((l.getD i (0, 0)).2 : Int)) := by
    simp [List.getD, hi]
  rw [e, Nat.zero_add]
  exact ⟨h1, h2⟩
end Go.Proofs.YtoblmhpjendbfaaGreatDoor.Fm
