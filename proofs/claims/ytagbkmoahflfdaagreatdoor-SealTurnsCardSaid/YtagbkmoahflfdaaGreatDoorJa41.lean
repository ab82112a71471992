/- The walks of layer 9: the document's New and Turn, a state as the document's -/
import Derived.Test.YtagbkmoahflfdaaGreatDoorJa33
import Derived.Test.YtagbkmoahflfdaaGreatDoorJa37
import Derived.Great.Walk
namespace Go.Proofs.YtagbkmoahflfdaaGreatDoor.Se
set_option maxRecDepth 20000
open Go.RowKit Vm Dg Kd
set_option linter.unusedVariables false
set_option linter.unusedSimpArgs false

theorem inf_rs : (Tryz.prog.info? 46).map (·.size) = some 12 := by kernel_rfl
def RX (T : TypeId) (W : World) (b : Nat) (x0 x1 x2 x3 x4 x5 x6 x7 x8 x9 : ByteArray) (xo xp : Bool) : Prop := W.heap[b]? = some (.cells #[.string x0, .string x1, .string x2, .string x3, .string x4, .string x5, .string x6, .string x7, .string x8, .string x9, .bool xo, .bool xp] T (0, 0))
theorem RX.lt {T : TypeId} {W : World} {b : Nat} {x0 x1 x2 x3 x4 x5 x6 x7 x8 x9 : ByteArray} {xo xp : Bool} (h : RX T W b x0 x1 x2 x3 x4 x5 x6 x7 x8 x9 xo xp) : b < W.heap.size := (Array.getElem?_eq_some_iff.1 h).1
theorem RX.keep {T : TypeId} {W W' : World} {b B : Nat} {x0 x1 x2 x3 x4 x5 x6 x7 x8 x9 : ByteArray} {xo xp : Bool} (h : RX T W b x0 x1 x2 x3 x4 x5 x6 x7 x8 x9 xo xp) (hb : Below B W W') (hB : b < B) : RX T W' b x0 x1 x2 x3 x4 x5 x6 x7 x8 x9 xo xp := (hb.block b hB).trans h
theorem cellsR {T : TypeId} {W : World} {b : Nat} {x0 x1 x2 x3 x4 x5 x6 x7 x8 x9 : ByteArray} {xo xp : Bool} (h : RX T W b x0 x1 x2 x3 x4 x5 x6 x7 x8 x9 xo xp) : W.cell? ⟨b, 0, none⟩ = some (.string x0) ∧ W.cell? ⟨b, 1, none⟩ = some (.string x1) ∧ W.cell? ⟨b, 2, none⟩ = some (.string x2) ∧ W.cell? ⟨b, 3, none⟩ = some (.string x3) ∧ W.cell? ⟨b, 4, none⟩ = some (.string x4) ∧ W.cell? ⟨b, 5, none⟩ = some (.string x5) ∧ W.cell? ⟨b, 6, none⟩ = some (.string x6) ∧ W.cell? ⟨b, 7, none⟩ = some (.string x7) ∧ W.cell? ⟨b, 8, none⟩ = some (.string x8) ∧ W.cell? ⟨b, 9, none⟩ = some (.string x9) ∧ W.cell? ⟨b, 10, none⟩ = some (.bool xo) ∧ W.cell? ⟨b, 11, none⟩ = some (.bool xp) := cells12 h
set_option maxHeartbeats 4000000 in
theorem dnew_walk (sec n k v m k2 v2 m2 : ByteArray) (w : World)
    (CN : Hid (∀ W : World, Calls Tryz.prog 51 #[.string sec] W fun e w' => e = .returned (.string n) ∧ Below W.heap.size W w'))
    (CO : Hid (∀ W : World, Calls Tryz.prog 15 #[.string sec] W fun e w' => e = .returned (.agg #[.string k, .string v, .string m]) ∧ Below W.heap.size W w'))
    (CO2 : Hid (∀ W : World, Calls Tryz.prog 15 #[.string n] W fun e w' => e = .returned (.agg #[.string k2, .string v2, .string m2]) ∧ Below W.heap.size W w')) :
    Calls Tryz.prog 23 #[.string sec] w fun e w' => e = .returned (.agg #[.string n, .string ⟨#[]⟩, .string ⟨#[]⟩, .string ⟨#[]⟩, .string k, .string v, .string m, .string k2, .string v2, .string m, .bool false, .bool false]) ∧ Below w.heap.size w w' := by
  go_enter Tryz.func23, Tryz.ntmps23
  go_wp2_with fail
  with_reducible refine (CN.out _).mono ?_
  rintro e1 w1 ⟨rfl, hb⟩
  have HR1 : Hid (RX 46 w1 w.heap.size ⟨#[]⟩ ⟨#[]⟩ ⟨#[]⟩ ⟨#[]⟩ ⟨#[]⟩ ⟨#[]⟩ ⟨#[]⟩ ⟨#[]⟩ ⟨#[]⟩ ⟨#[]⟩ false false) := Lib.hid ((hb.block w.heap.size (by simp)).trans (heap_alloc_new w _))
  have HB1 := Lib.hid (((Below.refl w.heap.size w).alloc (Nat.le_refl _) (.cells #[.string ⟨#[]⟩, .string ⟨#[]⟩, .string ⟨#[]⟩, .string ⟨#[]⟩, .string ⟨#[]⟩, .string ⟨#[]⟩, .string ⟨#[]⟩, .string ⟨#[]⟩, .string ⟨#[]⟩, .string ⟨#[]⟩, .bool false, .bool false] 46)).trans (hb.mono (by simp)))
  clear hb
  go_wp2_with fail
  with_reducible refine (CO.out _).mono ?_
  rintro e2 w2 ⟨rfl, hb⟩
  have HR2 := Lib.hid (HR1.out.keep hb HR1.out.lt)
  have HB2 := Lib.hid (HB1.out.trans (hb.mono HB1.out.size))
  clear hb
  go_wp2_with fail
  with_reducible refine (CO2.out _).mono ?_
  rintro e3 w3 ⟨rfl, hb⟩
  have HR3 := Lib.hid (HR2.out.keep hb HR2.out.lt)
  have HB3 := Lib.hid (HB2.out.trans (hb.mono HB2.out.size))
  clear hb
  obtain ⟨r0, r1, r2, r3, r4, r5, r6, r7, r8, r9, r10, r11⟩ := cellsR HR3.out
  obtain ⟨f0, f1, f2, f3, f4, f5, f6, f7, f8, f9, f10, f11⟩ := fz12 HR3.out
  have hlt := HR3.out.lt
  go_wp2_with fail
  have HQ := Lib.hid ((Below.heap_alloc _ (.cells #[.string n, .string ⟨#[]⟩, .string ⟨#[]⟩, .string ⟨#[]⟩, .string k, .string v, .string m, .string k2, .string v2, .string m, .bool false, .bool false] 46) w.heap.size (by simpa using hlt)).trans (put12 HR3.out (.string n) (.string ⟨#[]⟩) (.string ⟨#[]⟩) (.string ⟨#[]⟩) (.string k) (.string v) (.string m) (.string k2) (.string v2) (.string m) (.bool false) (.bool false)))
  exact bodyPost_ret (v := .agg #[.string n, .string ⟨#[]⟩, .string ⟨#[]⟩, .string ⟨#[]⟩, .string k, .string v, .string m, .string k2, .string v2, .string m, .bool false, .bool false]) (results_cell_row Tryz.results23 _ _ (w.heap.size) _ _ _ _ rfl HQ.out Tryz.underlying46 rfl inf_rs) rfl ⟨rfl, (below12 HB3.out (Nat.le_refl _) (.string n) (.string ⟨#[]⟩) (.string ⟨#[]⟩) (.string ⟨#[]⟩) (.string k) (.string v) (.string m) (.string k2) (.string v2) (.string m) (.bool false) (.bool false)).alloc (by have := HB3.out.size; simpa using this) _⟩
set_option maxHeartbeats 8000000 in
theorem dturn_walk (x0 x1 x2 x3 x4 x5 x6 x7 x8 x9 n k2 v2 m2 : ByteArray) (xo xp : Bool) (w : World)
    (CN : Hid (∀ W : World, Calls Tryz.prog 51 #[.string x0] W fun e w' => e = .returned (.string n) ∧ Below W.heap.size W w'))
    (CO : Hid (∀ W : World, Calls Tryz.prog 15 #[.string n] W fun e w' => e = .returned (.agg #[.string k2, .string v2, .string m2]) ∧ Below W.heap.size W w')) :
    Calls Tryz.prog 26 #[.agg #[.string x0, .string x1, .string x2, .string x3, .string x4, .string x5, .string x6, .string x7, .string x8, .string x9, .bool xo, .bool xp]] w fun e w' => e = .returned (.agg #[.string n, .string x4, .string x5, .string x6, .string x7, .string x8, .string x6, .string k2, .string v2, .string x6, .bool true, .bool (!xp)]) ∧ Below w.heap.size w w' := by
  have HE0 : Hid ((RX 46 ((w.alloc (.cells #[.string x0, .string x1, .string x2, .string x3, .string x4, .string x5, .string x6, .string x7, .string x8, .string x9, .bool xo, .bool xp] 46)).alloc (.cells #[.string ⟨#[]⟩, .string ⟨#[]⟩, .string ⟨#[]⟩, .string ⟨#[]⟩, .string ⟨#[]⟩, .string ⟨#[]⟩, .string ⟨#[]⟩, .string ⟨#[]⟩, .string ⟨#[]⟩, .string ⟨#[]⟩, .bool false, .bool false] 46)) w.heap.size x0 x1 x2 x3 x4 x5 x6 x7 x8 x9 xo xp ∧ RX 46 ((w.alloc (.cells #[.string x0, .string x1, .string x2, .string x3, .string x4, .string x5, .string x6, .string x7, .string x8, .string x9, .bool xo, .bool xp] 46)).alloc (.cells #[.string ⟨#[]⟩, .string ⟨#[]⟩, .string ⟨#[]⟩, .string ⟨#[]⟩, .string ⟨#[]⟩, .string ⟨#[]⟩, .string ⟨#[]⟩, .string ⟨#[]⟩, .string ⟨#[]⟩, .string ⟨#[]⟩, .bool false, .bool false] 46)) (w.heap.size + 1) ⟨#[]⟩ ⟨#[]⟩ ⟨#[]⟩ ⟨#[]⟩ ⟨#[]⟩ ⟨#[]⟩ ⟨#[]⟩ ⟨#[]⟩ ⟨#[]⟩ ⟨#[]⟩ false false) ∧ Below w.heap.size w ((w.alloc (.cells #[.string x0, .string x1, .string x2, .string x3, .string x4, .string x5, .string x6, .string x7, .string x8, .string x9, .bool xo, .bool xp] 46)).alloc (.cells #[.string ⟨#[]⟩, .string ⟨#[]⟩, .string ⟨#[]⟩, .string ⟨#[]⟩, .string ⟨#[]⟩, .string ⟨#[]⟩, .string ⟨#[]⟩, .string ⟨#[]⟩, .string ⟨#[]⟩, .string ⟨#[]⟩, .bool false, .bool false] 46))) := Lib.hid ⟨⟨(Below.heap_alloc _ _ w.heap.size (by simp)).trans (heap_alloc_new w _), by
    have h := heap_alloc_new (w.alloc (.cells #[.string x0, .string x1, .string x2, .string x3, .string x4, .string x5, .string x6, .string x7, .string x8, .string x9, .bool xo, .bool xp] 46)) (.cells #[.string ⟨#[]⟩, .string ⟨#[]⟩, .string ⟨#[]⟩, .string ⟨#[]⟩, .string ⟨#[]⟩, .string ⟨#[]⟩, .string ⟨#[]⟩, .string ⟨#[]⟩, .string ⟨#[]⟩, .string ⟨#[]⟩, .bool false, .bool false] 46)
    rwa [World.size_alloc] at h⟩, ((Below.refl _ _).alloc (Nat.le_refl _) _).alloc (by simp) _⟩
  go_enter Tryz.func26, Tryz.ntmps26
  go_upto_region 1 with (fail)
  generalize ((w.alloc (.cells #[.string x0, .string x1, .string x2, .string x3, .string x4, .string x5, .string x6, .string x7, .string x8, .string x9, .bool xo, .bool xp] 46)).alloc (.cells #[.string ⟨#[]⟩, .string ⟨#[]⟩, .string ⟨#[]⟩, .string ⟨#[]⟩, .string ⟨#[]⟩, .string ⟨#[]⟩, .string ⟨#[]⟩, .string ⟨#[]⟩, .string ⟨#[]⟩, .string ⟨#[]⟩, .bool false, .bool false] 46)) = W0 at HE0 ⊢
  obtain ⟨q0, q1, q2, q3, q4, q5, q6, q7, q8, q9, q10, q11⟩ := cellsR HE0.out.1.1
  go_wp2_with fail
  with_reducible refine (CN.out _).mono ?_
  rintro e1 w1 ⟨rfl, hb⟩
  have HX1 := Lib.hid (HE0.out.1.1.keep hb HE0.out.1.1.lt)
  have HR1 := Lib.hid (HE0.out.1.2.keep hb HE0.out.1.2.lt)
  have HB1 := Lib.hid (HE0.out.2.trans (hb.mono HE0.out.2.size))
  clear hb
  go_wp2_with fail
  with_reducible refine (CO.out _).mono ?_
  rintro e2 w2 ⟨rfl, hb⟩
  have HX2 := Lib.hid (HX1.out.keep hb HX1.out.lt)
  have HR2 := Lib.hid (HR1.out.keep hb HR1.out.lt)
  have HB2 := Lib.hid (HB1.out.trans (hb.mono HB1.out.size))
  clear hb HX1 HR1 HB1 q0 q1 q2 q3 q4 q5 q6 q7 q8 q9 q10 q11
  obtain ⟨s0, s1, s2, s3, s4, s5, s6, s7, s8, s9, s10, s11⟩ := cellsR HX2.out
  obtain ⟨r0, r1, r2, r3, r4, r5, r6, r7, r8, r9, r10, r11⟩ := cellsR HR2.out
  obtain ⟨f0, f1, f2, f3, f4, f5, f6, f7, f8, f9, f10, f11⟩ := fz12 HR2.out
  have hlt := HR2.out.lt
  have hlt0 : w.heap.size < w2.heap.size := by omega
  have hlt1 : w.heap.size < w2.heap.size + 1 := by omega
  have hlt2 : w.heap.size + 1 < w2.heap.size + 1 := by omega
  go_wp2_with fail
  have HQ := Lib.hid ((Below.heap_alloc _ (.cells #[.string x7, .string x8, .string x6] 31) (w.heap.size + 1) (by simp; omega)).trans ((Below.heap_alloc _ (.cells #[.string k2, .string v2, .string x6] 31) (w.heap.size + 1) (by simpa using hlt)).trans (put12 HR2.out (.string n) (.string x4) (.string x5) (.string x6) (.string x7) (.string x8) (.string x6) (.string k2) (.string v2) (.string x6) (.bool true) (.bool (!xp)))))
  have hB := (below12 HB2.out (Nat.le_succ w.heap.size) (.string n) (.string x4) (.string x5) (.string x6) (.string x7) (.string x8) (.string x6) (.string k2) (.string v2) (.string x6) (.bool true) (.bool (!xp)))
  exact bodyPost_ret (v := .agg #[.string n, .string x4, .string x5, .string x6, .string x7, .string x8, .string x6, .string k2, .string v2, .string x6, .bool true, .bool (!xp)]) (results_cell_row Tryz.results26 _ _ (w.heap.size + 1) _ _ _ _ rfl HQ.out Tryz.underlying46 rfl inf_rs) rfl ⟨rfl, (hB.alloc hB.size _).alloc (by have := hB.size; simp at this ⊢; omega) _⟩
set_option maxHeartbeats 4000000 in
theorem its_walk (x0 x1 x2 x3 x4 x5 x6 x7 x8 x9 : ByteArray) (xo xp : Bool) (w : World) :
    Calls Tryz.prog 24 #[.agg #[.string x0, .string x1, .string x2, .string x3, .string x4, .string x5, .string x6, .string x7, .string x8, .string x9, .bool xo, .bool xp]] w fun e w' => e = .returned (.agg #[.string x0, .string x1, .string x2, .string x3, .string x4, .string x5, .string x6, .string x7, .string x8, .string x9, .bool xo, .bool xp]) ∧ Below w.heap.size w w' := by
  go_enter Tryz.func24, Tryz.ntmps24
  go_wp2_with fail
  have HQ := heap_alloc_new (w.alloc (.cells #[.string x0, .string x1, .string x2, .string x3, .string x4, .string x5, .string x6, .string x7, .string x8, .string x9, .bool xo, .bool xp] 43)) (.cells #[.string x0, .string x1, .string x2, .string x3, .string x4, .string x5, .string x6, .string x7, .string x8, .string x9, .bool xo, .bool xp] 46)
  rw [World.size_alloc] at HQ
  exact bodyPost_ret (v := .agg #[.string x0, .string x1, .string x2, .string x3, .string x4, .string x5, .string x6, .string x7, .string x8, .string x9, .bool xo, .bool xp]) (results_cell_row Tryz.results24 _ _ (w.heap.size + 1) _ _ _ _ rfl HQ Tryz.underlying46 rfl inf_rs) rfl ⟨rfl, (((Below.refl _ _).alloc (Nat.le_refl _) _).alloc (by simp) _)⟩
theorem dnew_any (k : List UInt8) (w : World) (hk : k.length ≤ 1000) : Calls Tryz.prog 23 #[.string ⟨k.toArray⟩] w fun e w' => e = .returned (.agg (newS k).arr) ∧ Below w.heap.size w w' :=
  dnew_walk ⟨k.toArray⟩ ⟨(nxt k).toArray⟩ ⟨(kKey k).toArray⟩ ⟨(kIv k).toArray⟩ ⟨(kMask k).toArray⟩ ⟨(kKey (nxt k)).toArray⟩ ⟨(kIv (nxt k)).toArray⟩ ⟨(kMask (nxt k)).toArray⟩ w (Lib.hid fun W => next_ref k W (by omega)) (Lib.hid fun W => ofs_ref k W (by omega)) (Lib.hid fun W => ofs_ref (nxt k) W (by rw [nxt_len]; decide))
theorem dturn_any (s : Sst) (w : World) (hk : s.sec.length ≤ 1000) : Calls Tryz.prog 26 #[.agg s.arr] w fun e w' => e = .returned (.agg (turnS s).arr) ∧ Below w.heap.size w w' :=
  dturn_walk _ _ _ _ _ _ _ _ _ _ ⟨(nxt s.sec).toArray⟩ ⟨(kKey (nxt s.sec)).toArray⟩ ⟨(kIv (nxt s.sec)).toArray⟩ ⟨(kMask (nxt s.sec)).toArray⟩ _ _ w (Lib.hid fun W => next_ref s.sec W (by omega)) (Lib.hid fun W => ofs_ref (nxt s.sec) W (by rw [nxt_len]; decide))
theorem its_any (s : Sst) (w : World) : Calls Tryz.prog 24 #[.agg s.arr] w fun e w' => e = .returned (.agg s.arr) ∧ Below w.heap.size w w' := its_walk _ _ _ _ _ _ _ _ _ _ _ _ w
end Go.Proofs.YtagbkmoahflfdaaGreatDoor.Se
