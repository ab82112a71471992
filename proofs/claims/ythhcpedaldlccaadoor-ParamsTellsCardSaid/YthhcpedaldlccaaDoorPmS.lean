/- The walks of layer 5: shown; equality of parameters. -/
import Derived.Test.YthhcpedaldlccaaDoorPmJ
import Derived.Laws.StructEq
import Derived.BigRegion
namespace Go.Proofs.YthhcpedaldlccaaDoor.Pm
open Go.RowKit Vm
set_option linter.unusedVariables false
set_option linter.unusedSimpArgs false

theorem fieldsP : Tryd.prog.underlying 24 = some (.struct (Tryd.prog.fieldsOf 24)) := by kernel_rfl
theorem stoodP : Tryd.prog.stoodInHeld 24 = false := by kernel_rfl
set_option maxHeartbeats 1000000 in
theorem eql_same (p : Prm) (w : World) : (binOp .eql 24 (pv p) (pv p)).run Tryd.prog w = .ok (.bool true) w := by
  unfold pv
  rw [run_eql_struct, run_equalIn_agg w 9999 _ _ _ fieldsP stoodP]
  simp [go_sem, Op.eqFields]
def p64 : Prm := { usual with data := 64 }
theorem put64 : putL p64 = [4, 2, 64, 64] := by decide
theorem chk64 : chkB p64 = true := by decide
theorem chk0 : chkB zeroP = false := by decide
theorem get64 : getO [4, 2, 64, 64] = some p64 := by rw [← put64]; exact get_put p64 chk64 (by decide)
/-- The cells of parameters, their values spelt out. -/
theorem pcells {b : Nat} {p : Prm} {W : World} {v0 v1 v2 v3 v4 v5 v6 v7 v8 v9 v10 : Int} {v11 : Array UInt8} (h : PBk b p W) (e : p = ⟨v0, v1, v2, v3, v4, v5, v6, v7, v8, v9, v10, v11.toList⟩) : W.cell? ⟨b, 0, none⟩ = some (.int .u64 v0) ∧ W.cell? ⟨b, 1, none⟩ = some (.int .u64 v1) ∧ W.cell? ⟨b, 2, none⟩ = some (.int .u64 v2) ∧ W.cell? ⟨b, 3, none⟩ = some (.int .u64 v3) ∧ W.cell? ⟨b, 4, none⟩ = some (.int .u64 v4) ∧ W.cell? ⟨b, 5, none⟩ = some (.int .u64 v5) ∧ W.cell? ⟨b, 6, none⟩ = some (.int .u64 v6) ∧ W.cell? ⟨b, 7, none⟩ = some (.int .u64 v7) ∧ W.cell? ⟨b, 8, none⟩ = some (.int .u64 v8) ∧ W.cell? ⟨b, 9, none⟩ = some (.int .u64 v9) ∧ W.cell? ⟨b, 10, none⟩ = some (.int .u64 v10) ∧ W.cell? ⟨b, 11, none⟩ = some (.string ⟨v11⟩) := by
  subst e
  exact ⟨h.cell0, h.cell1, h.cell2, h.cell3, h.cell4, h.cell5, h.cell6, h.cell7, h.cell8, h.cell9, h.cell10, by simpa using h.cell11⟩
theorem wf_p64 : Wf p64 := ⟨by decide, by decide, by decide, by decide, by decide, by decide, by decide, by decide, by decide, by decide, by decide, by decide⟩
theorem wf_zero : Wf zeroP := ⟨by decide, by decide, by decide, by decide, by decide, by decide, by decide, by decide, by decide, by decide, by decide, by decide⟩
/-- Both tables. -/
def Tabs (w : World) : Prop := Tab w ∧ Lim w
theorem Tabs.below {B : Nat} {w w' : World} (h : Tabs w) (hb : Below B w w') (hB : w.heap.size ≤ B) : Tabs w' :=
  ⟨h.1.below hb (Nat.lt_of_lt_of_le h.1.lt hB), h.2.below hb (Nat.lt_of_lt_of_le h.2.1 hB)⟩
/-- A text's parameters, where it is known that they are these. -/
theorem get_some {l : List UInt8} {p : Prm} (h : getO l = some p) (w : World) (hl : l.length ≤ 4000) (ht : Tabs w) : Calls Tryd.prog 11 #[.string ⟨l.toArray⟩] w fun e w' => e = .returned (.tuple #[pv p, .int .i64 0]) ∧ Below w.heap.size w w' := by
  have := get_any l w hl ht.1 ht.2
  rwa [getP_yes h, getE_yes h] at this
theorem get_none {l : List UInt8} (h : getO l = none) (w : World) (hl : l.length ≤ 4000) (ht : Tabs w) : Calls Tryd.prog 11 #[.string ⟨l.toArray⟩] w fun e w' => e = .returned (.tuple #[pv zeroP, .int .i64 50]) ∧ Below w.heap.size w w' := by
  have := get_any l w hl ht.1 ht.2
  rwa [getP_no h, getE_no h] at this
theorem put_some {p : Prm} (h : chkB p = true) (w : World) (hw : Wf p) (ht : Tabs w) : Calls Tryd.prog 9 #[pv p] w fun e w' => e = .returned (.tuple #[.string ⟨(putL p).toArray⟩, .int .i64 0]) ∧ Below w.heap.size w w' := put_ok p w ht.1 ht.2 hw h
theorem put_none {p : Prm} (h : chkB p = false) (w : World) (hw : Wf p) (ht : Tabs w) : Calls Tryd.prog 9 #[pv p] w fun e w' => e = .returned (.tuple #[.string ⟨#[]⟩, .int .i64 50]) ∧ Below w.heap.size w w' := put_not p w ht.1 ht.2 hw h
set_option maxHeartbeats 4000000 in
theorem shown_any (w : World) (ht : Tabs w) : Calls Tryd.prog 8 #[] w fun e w' => e = .returned (.bool true) ∧ Below w.heap.size w w' := by
  have CP : Hid (∀ w, Tabs w → Calls Tryd.prog 9 #[(.agg #[.int .u64 0, .int .u64 65527, .int .u64 64, .int .u64 0, .int .u64 0, .int .u64 0, .int .u64 0, .int .u64 0, .int .u64 3, .int .u64 25, .int .u64 2, .string ⟨#[]⟩])] w fun e w' => e = .returned (.tuple #[.string ⟨#[4, 2, 64, 64]⟩, .int .i64 0]) ∧ Below w.heap.size w w') := Lib.hid (fun w ht => by
    have := put_some chk64 w wf_p64 ht
    rw [put64] at this
    exact this)
  have CG : Hid (∀ w, Tabs w → Calls Tryd.prog 11 #[.string ⟨#[4, 2, 64, 64]⟩] w fun e w' => e = .returned (.tuple #[(.agg #[.int .u64 0, .int .u64 65527, .int .u64 64, .int .u64 0, .int .u64 0, .int .u64 0, .int .u64 0, .int .u64 0, .int .u64 3, .int .u64 25, .int .u64 2, .string ⟨#[]⟩]), .int .i64 0]) ∧ Below w.heap.size w w') := Lib.hid (fun w ht => get_some get64 w (by decide) ht)
  have CC : Hid (∀ w, Tabs w → Calls Tryd.prog 13 #[(.agg #[.int .u64 0, .int .u64 0, .int .u64 0, .int .u64 0, .int .u64 0, .int .u64 0, .int .u64 0, .int .u64 0, .int .u64 0, .int .u64 0, .int .u64 0, .string ⟨#[]⟩])] w fun e w' => e = .returned (.int .i64 50) ∧ Below w.heap.size w w') := Lib.hid (fun w ht => by
    have := check_any zeroP w ht.2 wf_zero
    rw [chkE_no chk0] at this
    exact this)
  have HT := Lib.hid ht
  clear ht
  go_enter Tryd.func8, Tryd.ntmps8
  go_wp2_with fail
  refine (default_any _).mono ?_
  rintro e w1 ⟨rfl, hb1⟩
  have H1 := Lib.hid hb1
  clear hb1
  go_wp2_with fail
  refine (CP.out _ (HT.out.below (H1.out.alloc H1.out.size _) (Nat.le_refl _))).mono ?_
  rintro e w2 ⟨rfl, hb2⟩
  have HA : Hid (PBk w1.heap.size p64 w2) := Lib.hid ((PBk.made w1 p64).keep hb2)
  have H2 := Lib.hid ((H1.out.alloc H1.out.size _).trans (hb2.mono (by have := H1.out.size; simp; omega)))
  clear hb2
  go_wp2_with fail
  refine (CG.out _ (HT.out.below H2.out (Nat.le_refl _))).mono ?_
  rintro e w3 ⟨rfl, hb3⟩
  replace HA := Lib.hid (HA.out.keep hb3)
  have H3 := Lib.hid (H2.out.trans (hb3.mono H2.out.size))
  obtain ⟨a0, a1, a2, a3, a4, a5, a6, a7, a8, a9, a10, a11⟩ := pcells (v0 := 0) (v1 := 65527) (v2 := 64) (v3 := 0) (v4 := 0) (v5 := 0) (v6 := 0) (v7 := 0) (v8 := 3) (v9 := 25) (v10 := 2) (v11 := #[]) HA.out rfl
  have hlt1 := HA.out.lt
  clear hb3
  go_wp2_with fail
  refine (CC.out _ (HT.out.below (H3.out.alloc H3.out.size _) (Nat.le_refl _))).mono ?_
  rintro e w4 ⟨rfl, hb4⟩
  have H4 := Lib.hid ((H3.out.alloc H3.out.size _).trans (hb4.mono (by have := H3.out.size; simp; omega)))
  clear hb4
  go_wp2
  go_ret
  exact ⟨rfl, H4.out⟩
end Go.Proofs.YthhcpedaldlccaaDoor.Pm
