/- The walks of layer 7: what is bounded; the document's constants, its text with what stands behind it. · The walks of layer 7: the document's text with what stands behind it. · The walks of layer 7: the document's block. · The walks of layer 7: the document's Sum · The law DigestSums, walked; texts among the arguments. · The walks of layer 8: Mac, Extract, secretOf, expands, counted. -/
import Derived.Test.YtojoalmldapboaaGreatDoorJa17
import Derived.Deep.RegionHeld3
import Derived.SliceStrings
import Derived.SizedLaws
import Derived.Test.YtojoalmldapboaaGreatDoorJa13
namespace Go.Proofs.YtojoalmldapboaaGreatDoor.Dg
set_option maxRecDepth 20000
open Go.RowKit
set_option linter.unusedVariables false
set_option linter.unusedSimpArgs false

/-- A block of 64-bit words. -/
def AQ (T : TypeId) (w : World) (b : Nat) (l : List Nat) : Prop := w.heap[b]? = some (.cells (l.map fun x : Nat => Value.int .u64 x).toArray T (0, 0))
theorem AQ.lt {T : TypeId} {w : World} {b : Nat} {l : List Nat} (h : AQ T w b l) : b < w.heap.size := by
  rcases Nat.lt_or_ge b w.heap.size with h1 | h1
  · exact h1
  · unfold AQ at h; rw [Array.getElem?_eq_none h1] at h; cases h
theorem AQ.keep {T : TypeId} {w w' : World} {b : Nat} {l : List Nat} (h : AQ T w b l) (hb : Below w.heap.size w w') : AQ T w' b l := by
  have hlt := h.lt
  unfold AQ at *
  rw [hb.block b hlt]; exact h
theorem AQ.cell {T : TypeId} {w : World} {b : Nat} {l : List Nat} (h : AQ T w b l) (j : Nat) (hj : j < l.length) : w.cell? ⟨b, j, none⟩ = some (.int .u64 (l.getD j 0 : Nat)) := by
  rw [Lib.cell_of_heap h]
  simp [List.getD, List.getElem?_eq_getElem hj]
theorem AQ.fz {T : TypeId} {w : World} {b : Nat} {l : List Nat} (h : AQ T w b l) (j : Nat) : w.frozen? ⟨b, j, none⟩ = false := Lib.frozen_of_heap h j
theorem AQ.set {T : TypeId} {w : World} {b : Nat} {l : List Nat} (h : AQ T w b l) (j x : Nat) : AQ T (w.setCell ⟨b, j, none⟩ (.int .u64 x)) b (l.set j x) := by
  have := Joins.block_setCell (i := j) h (.int .u64 (x : Int))
  unfold AQ
  rw [this]
  simp [List.map_set]
theorem AQ.other {T : TypeId} {w : World} {b c : Nat} {l : List Nat} (h : AQ T w b l) (hc : b ≠ c) (j : Nat) (v : Value) : AQ T (w.setCell ⟨c, j, none⟩ v) b l := by
  unfold AQ at *
  rw [heap_setCell_other _ _ _ _ hc]
  exact h
theorem AQ.drew {T : TypeId} {w : World} {b : Nat} {l : List Nat} (h : AQ T w b l) : AQ T w.drew b l := h
theorem AQ.drewN {T : TypeId} {w : World} {b n : Nat} {l : List Nat} (h : AQ T w b l) : AQ T (w.drewN n) b l := h
end Go.Proofs.YtojoalmldapboaaGreatDoor.Dg
namespace Go.Proofs.YtojoalmldapboaaGreatDoor.Dg
set_option maxRecDepth 20000
open Go.RowKit
set_option linter.unusedVariables false
set_option linter.unusedSimpArgs false

theorem OwnM.alloc {w : World} {B : Nat} {v : Value} {l : List UInt8} (h : OwnM w B v l) (o : Obj) : OwnM (w.alloc o) B v l := h.keep ((Below.refl _ _).alloc (Nat.le_refl _) _)
end Go.Proofs.YtojoalmldapboaaGreatDoor.Dg
namespace Go.Proofs.YtojoalmldapboaaGreatDoor.Dg
set_option maxRecDepth 20000
open Go.RowKit
set_option linter.unusedVariables false
set_option linter.unusedSimpArgs false

/-- A block of eight words of 64 bits. -/
def VQ (w : World) (b : Nat) (v : V) : Prop := w.heap[b]? = some (.cells #[.int .u64 v.a, .int .u64 v.b, .int .u64 v.c, .int .u64 v.d, .int .u64 v.e, .int .u64 v.f, .int .u64 v.g, .int .u64 v.h] 194 (0, 0))
theorem VQ.cells {w : World} {b : Nat} {v : V} (h : VQ w b v) : w.cell? ⟨b, 0, none⟩ = some (.int .u64 v.a) ∧ w.cell? ⟨b, 1, none⟩ = some (.int .u64 v.b) ∧ w.cell? ⟨b, 2, none⟩ = some (.int .u64 v.c) ∧ w.cell? ⟨b, 3, none⟩ = some (.int .u64 v.d) ∧ w.cell? ⟨b, 4, none⟩ = some (.int .u64 v.e) ∧ w.cell? ⟨b, 5, none⟩ = some (.int .u64 v.f) ∧ w.cell? ⟨b, 6, none⟩ = some (.int .u64 v.g) ∧ w.cell? ⟨b, 7, none⟩ = some (.int .u64 v.h) := by
  refine ⟨?_, ?_, ?_, ?_, ?_, ?_, ?_, ?_⟩ <;> (rw [Lib.cell_of_heap h]; rfl)
theorem VQ.fz {w : World} {b : Nat} {v : V} (h : VQ w b v) (j : Nat) : w.frozen? ⟨b, j, none⟩ = false := Lib.frozen_of_heap h j
theorem VQ.lt {w : World} {b : Nat} {v : V} (h : VQ w b v) : b < w.heap.size := by
  rcases Nat.lt_or_ge b w.heap.size with h1 | h1
  · exact h1
  · unfold VQ at h; rw [Array.getElem?_eq_none h1] at h; cases h
theorem VQ.drew {w : World} {b : Nat} {v : V} (h : VQ w b v) : VQ w.drew b v := h
theorem VQ.drewN {w : World} {b n : Nat} {v : V} (h : VQ w b v) : VQ (w.drewN n) b v := h
theorem VQ.of {w : World} {b : Nat} {n : V} {y0 y1 y2 y3 y4 y5 y6 y7 : Int} (h : w.heap[b]? = some (.cells #[.int .u64 y0, .int .u64 y1, .int .u64 y2, .int .u64 y3, .int .u64 y4, .int .u64 y5, .int .u64 y6, .int .u64 y7] 194 (0, 0)))
    (e0 : y0 = (n.a : Int)) (e1 : y1 = (n.b : Int)) (e2 : y2 = (n.c : Int)) (e3 : y3 = (n.d : Int)) (e4 : y4 = (n.e : Int)) (e5 : y5 = (n.f : Int)) (e6 : y6 = (n.g : Int)) (e7 : y7 = (n.h : Int)) : VQ w b n := by
  subst e0 e1 e2 e3 e4 e5 e6 e7
  exact h
theorem AQ.of {T : TypeId} {w w' : World} {b : Nat} {l l' : List Nat} (h : AQ T w' b l) (e : l = l') : AQ T w' b l' := e ▸ h
/-- What stands while a block is worked at: the state that came, the result's place, the constants, the words. -/
structure BK (w wr : World) (bK bW : Nat) (h : V) (L : List Nat) : Prop where
  ph : AQ 194 wr w.heap.size h.toL
  rs : AQ 194 wr (w.heap.size + 1) (List.replicate 8 0)
  ks : AQ 211 wr bK K0
  wd : AQ 211 wr bW L
  bel : Below w.heap.size w wr
  lk : w.heap.size + 2 ≤ bK
  lw : bK < bW
theorem BK.drew {w wr : World} {bK bW : Nat} {h : V} {L : List Nat} (k : BK w wr bK bW h L) : BK w wr.drew bK bW h L := ⟨k.ph, k.rs, k.ks, k.wd, below_drew k.bel, k.lk, k.lw⟩
theorem BK.drewN {w wr : World} {bK bW n : Nat} {h : V} {L : List Nat} (k : BK w wr bK bW h L) : BK w (wr.drewN n) bK bW h L := ⟨k.ph, k.rs, k.ks, k.wd, below_drewN k.bel _, k.lk, k.lw⟩
theorem BK.keep {w wr w' : World} {bK bW : Nat} {h : V} {L : List Nat} (k : BK w wr bK bW h L) (hb : Below wr.heap.size wr w') : BK w w' bK bW h L :=
  ⟨k.ph.keep hb, k.rs.keep hb, k.ks.keep hb, k.wd.keep hb, k.bel.trans (hb.mono k.bel.size), k.lk, k.lw⟩
/-- The words behind i rounds of the first loop. -/
def wi (s : List UInt8) (i : Nat) : List Nat := if i ≤ 16 then ld s (4 * i) else wl s (i - 16)
end Go.Proofs.YtojoalmldapboaaGreatDoor.Dg
namespace Go.Proofs.YtojoalmldapboaaGreatDoor.Dg
set_option maxRecDepth 20000
open Go.RowKit
set_option linter.unusedVariables false
set_option linter.unusedSimpArgs false

theorem VQ.keep {w w' : World} {b B : Nat} {v : V} (h : VQ w b v) (hb : Below B w w') (hB : b < B) : VQ w' b v := by
  unfold VQ at *
  rw [hb.block b hB]; exact h
theorem VQ.put8 {w0 w : World} {b B : Nat} {u : V} (h : VQ w b u) (n : V) (hB : Below B w0 w) (hb : B ≤ b) :
    VQ ((((((((w.setCell ⟨b, 0, none⟩ (.int .u64 n.a)).setCell ⟨b, 1, none⟩ (.int .u64 n.b)).setCell ⟨b, 2, none⟩ (.int .u64 n.c)).setCell ⟨b, 3, none⟩ (.int .u64 n.d)).setCell ⟨b, 4, none⟩ (.int .u64 n.e)).setCell ⟨b, 5, none⟩ (.int .u64 n.f)).setCell ⟨b, 6, none⟩ (.int .u64 n.g)).setCell ⟨b, 7, none⟩ (.int .u64 n.h)) b n ∧
    Below B w0 ((((((((w.setCell ⟨b, 0, none⟩ (.int .u64 n.a)).setCell ⟨b, 1, none⟩ (.int .u64 n.b)).setCell ⟨b, 2, none⟩ (.int .u64 n.c)).setCell ⟨b, 3, none⟩ (.int .u64 n.d)).setCell ⟨b, 4, none⟩ (.int .u64 n.e)).setCell ⟨b, 5, none⟩ (.int .u64 n.f)).setCell ⟨b, 6, none⟩ (.int .u64 n.g)).setCell ⟨b, 7, none⟩ (.int .u64 n.h)) := by
  refine ⟨Dg.put8 _ _ _ _ _ _ _ _ _ _ _ _ _ _ _ _ h, ?_⟩
  iterate 8 (with_reducible refine Below.setCell ?_ hb _)
  exact hB

end Go.Proofs.YtojoalmldapboaaGreatDoor.Dg
namespace Go.Proofs.YtojoalmldapboaaGreatDoor.Dg
set_option maxRecDepth 20000
open Go.RowKit
set_option linter.unusedVariables false
set_option linter.unusedSimpArgs false

/-- Texts among the arguments: what is read of them, and how long they may be. -/
def ArgS (w : World) (a : Option Addr) (len cap : Nat) (xs : List ByteArray) : Prop :=
  xs.length = len ∧ len ≤ cap ∧ len ≤ 140737488355328 ∧ (∀ s ∈ xs, s.size ≤ 140737488355328) ∧ (xs ≠ [] → ∃ b o, a = some ⟨b, o, none⟩ ∧ RowS w b o xs)
theorem ArgS.nil {w : World} {a : Option Addr} {len cap : Nat} {xs : List ByteArray} (h : ArgS w a len cap xs) (hx : xs = []) : len = 0 := by
  rw [← h.1, hx]; rfl
theorem ArgS.keep {w w' : World} {a : Option Addr} {len cap : Nat} {xs : List ByteArray} (h : ArgS w a len cap xs) (hb : Below w.heap.size w w') : ArgS w' a len cap xs :=
  ⟨h.1, h.2.1, h.2.2.1, h.2.2.2.1, fun hne => by
    obtain ⟨b, o, ha, hr⟩ := h.2.2.2.2 hne
    exact ⟨b, o, ha, hr.below hb hr.1⟩⟩
end Go.Proofs.YtojoalmldapboaaGreatDoor.Dg
namespace Go.Proofs.YtojoalmldapboaaGreatDoor.Kd
set_option maxRecDepth 20000
open Go.RowKit
open Go.Proofs.YtojoalmldapboaaGreatDoor.Dg
open Go.Proofs.YtojoalmldapboaaGreatDoor.Vm (fx fx_length vfixed)
set_option linter.unusedVariables false
set_option linter.unusedSimpArgs false

theorem join_row (b o c : Nat) (xs : List ByteArray) (W : World) (hr : RowS W b o xs) (hn : xs.length ≤ 140737488355328) (hc : xs.length ≤ c) (hl : (cat xs).length ≤ 140737488355328) :
    Calls Tryz.prog 142 #[.slice (some ⟨b, o, none⟩) xs.length c, .string ⟨#[]⟩] W fun e w' => e = .returned (.string ⟨(cat xs).toArray⟩) ∧ Below W.heap.size W w' := by
  have hj : Lib.join (xs.map (·.data.toList)) (⟨#[]⟩ : ByteArray).data.toList = cat xs := join_cat _
  have h := Tryz.strings_Join b o c xs ⟨#[]⟩ W hr.2 hr.1 hn hc (by rw [hj]; exact hl)
  rw [hj] at h
  exact h
/-- The join of the texts of a new row, in whatever world comes behind. -/
theorem join_new (xs : List ByteArray) (cs : Array Value) (hcs : cs = (xs.map Value.string).toArray) (n : Nat) (hn : xs.length = n) (hn2 : n ≤ 1000) (l : List UInt8) (hc : cat xs = l) (hl : l.length ≤ 100000) (W W' : World) (g : Nat) (hg : g = W.heap.size)
    (hb : Below (W.alloc (.cells cs 9)).heap.size (W.alloc (.cells cs 9)) W') :
    Calls Tryz.prog 142 #[.slice (some ⟨g, 0, none⟩) n n, .string ⟨#[]⟩] W' fun e w' => e = .returned (.string ⟨l.toArray⟩) ∧ Below W'.heap.size W' w' := by
  subst hg hn hc
  have hr := (rows_made W cs xs hcs 9).below hb (by simp)
  exact join_row W.heap.size 0 xs.length xs W' hr (by omega) (Nat.le_refl _) (by omega)
set_option maxHeartbeats 2000000 in
theorem mac_of (k l : List UInt8) (vs : Value) (w : World) (hk : k.length ≤ 100000) (hl : l.length ≤ 50000)
    (CJ : Hid (∀ W : World, Below w.heap.size w W → Calls Tryz.prog 142 #[vs, .string ⟨#[]⟩] W fun e w' => e = .returned (.string ⟨l.toArray⟩) ∧ Below W.heap.size W w')) :
    Calls Tryz.prog 114 #[.string ⟨k.toArray⟩, vs] w fun e w' => e = .returned (.string ⟨(mac k l).toArray⟩) ∧ Below w.heap.size w w' := by
  have C1 := Lib.hid (fun W => macOf_list k W hk)
  have C2 : Hid (∀ W : World, Below w.heap.size w W → Calls Tryz.prog 145 #[.agg #[.string ⟨(ko k).toArray⟩, .string ⟨(ki k).toArray⟩], vs] W fun e w' => e = .returned (.string ⟨(mac k l).toArray⟩) ∧ Below W.heap.size W w') := Lib.hid (fun W hW =>
    of_of ⟨(ko k).toArray⟩ ⟨(ki k).toArray⟩ vs l (mac k l) W (by show (ko k).length ≤ _; rw [ko_len]; omega) (by show (ki k).length ≤ _; rw [ki_len]; omega) hl rfl (Lib.hid fun W' hW' => CJ.out W' (hW.trans (hW'.mono hW.size))))
  generalize mac k l = M at *
  generalize ko k = KO at *
  generalize ki k = KI at *
  clear CJ
  go_enter Tryz.func114, Tryz.ntmps114
  go_wp2_with fail
  with_reducible refine (C1.out _).mono ?_
  rintro e w1 ⟨rfl, hb⟩
  have HB1 := Lib.hid hb
  clear hb
  go_wp2_with fail
  with_reducible refine (C2.out _ HB1.out).mono ?_
  rintro e w2 ⟨rfl, hb⟩
  have HB2 := Lib.hid (HB1.out.trans (hb.mono HB1.out.size))
  clear hb
  go_wp2
  go_ret
  exact ⟨rfl, HB2.out⟩
theorem inf_secret : (Tryz.prog.info? 82).map (·.size) = some 2 := by kernel_rfl
set_option maxHeartbeats 2000000 in
theorem secretOf_any (k : List UInt8) (w : World) (hk : k.length ≤ 100000) :
    Calls Tryz.prog 41 #[.string ⟨k.toArray⟩] w fun e w' => e = .returned (.agg #[.string ⟨(ko k).toArray⟩, .string ⟨(ki k).toArray⟩]) ∧ Below w.heap.size w w' := by
  have C1 := Lib.hid (fun W => macOf_list k W hk)
  generalize ko k = KO at *
  generalize ki k = KI at *
  go_enter Tryz.func41, Tryz.ntmps41
  go_wp2_with fail
  with_reducible refine (C1.out _).mono ?_
  rintro e w1 ⟨rfl, hb⟩
  have HB1 := Lib.hid (((Below.refl w.heap.size w).alloc (Nat.le_refl _) (.cells #[.string ⟨#[]⟩, .string ⟨#[]⟩] 82)).trans (hb.mono (by simp)))
  have HZ1 : Hid (w1.heap[w.heap.size]? = some (.cells #[.string ⟨#[]⟩, .string ⟨#[]⟩] 82 (0, 0))) := Lib.hid ((hb.block w.heap.size (by simp)).trans (heap_alloc_new w _))
  have hz0 : w1.cell? ⟨w.heap.size, 0, none⟩ = some (.string ⟨#[]⟩) := by rw [Lib.cell_of_heap HZ1.out]; rfl
  have hz1 : w1.cell? ⟨w.heap.size, 1, none⟩ = some (.string ⟨#[]⟩) := by rw [Lib.cell_of_heap HZ1.out]; rfl
  have hf : ∀ j, w1.frozen? ⟨w.heap.size, j, none⟩ = false := fun j => Lib.frozen_of_heap HZ1.out j
  clear hb
  go_wp2_with fail
  exact bodyPost_ret (v := .agg #[.string ⟨KO.toArray⟩, .string ⟨KI.toArray⟩]) (results_cell_row Tryz.results41 _ _ w.heap.size _ _ _ _ rfl (two_put HZ1.out) Tryz.underlying82 rfl inf_secret) rfl ⟨rfl, Below.setCell (p := ⟨w.heap.size, 1, none⟩) (Below.setCell (p := ⟨w.heap.size, 0, none⟩) HB1.out (Nat.le_refl _) _) (Nat.le_refl _) _⟩
set_option maxHeartbeats 1000000 in
theorem counted_any (s : List UInt8) (w : World) (hs : s.length ≤ 100000) : Calls Tryz.prog 110 #[.string ⟨s.toArray⟩] w fun e w' => e = .returned (.string ⟨(cnt s).toArray⟩) ∧ Below w.heap.size w w' := by
  obtain ⟨n, hn⟩ : ∃ n, s.length = n := ⟨_, rfl⟩
  have C1 : Hid (∀ W : World, Calls Tryz.prog 88 #[.int .u64 n, .int .i64 1] W fun e w' => e = .returned (.string ⟨(fx n 1).toArray⟩) ∧ Below W.heap.size W w') := Lib.hid (fun W => vfixed n 1 W (by omega) (by decide) (by decide))
  have hsz : (⟨s.toArray⟩ : ByteArray).size = n := hn
  have hc : (⟨(fx n 1).toArray⟩ : ByteArray) ++ ⟨s.toArray⟩ = ⟨(cnt s).toArray⟩ := by rw [app_two, ← hn]; rfl
  have hf : (⟨(fx n 1).toArray⟩ : ByteArray).size = 1 := fx_length n 1
  have hw : IntKind.u64.wrap (n : Int) = (n : Int) := by rw [IntKind.wrap_u64]; omega
  have g1 : ¬ 9223372036854775807 < 1 + n := by omega
  generalize cnt s = C at *
  generalize fx n 1 = F at *
  clear hs
  go_enter Tryz.func110, Tryz.ntmps110
  go_wp2_with fail
  with_reducible refine (C1.out _).mono ?_
  rintro e w1 ⟨rfl, hb⟩
  have HB1 := Lib.hid hb
  clear hb
  go_wp2
  go_ret
  exact ⟨rfl, HB1.out⟩
end Go.Proofs.YtojoalmldapboaaGreatDoor.Kd
