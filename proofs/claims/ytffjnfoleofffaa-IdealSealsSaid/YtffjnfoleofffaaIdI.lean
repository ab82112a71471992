/- The document's functions of layer 10: Seal. By hand. -/
import Derived.Test.YtffjnfoleofffaaIdH
namespace Go.Proofs.Ytffjnfoleofffaa.Id
open Go.RowKit Vm
set_option linter.unusedVariables false
set_option linter.unusedSimpArgs false

theorem own_made (w : World) (T : TypeId) : OwnE T (w.alloc (.cells #[] T)) w.heap.size (.slice (some ⟨w.heap.size, 0, none⟩) 0 0) [] :=
  World.ownsRow_made w #[] 0 (Nat.le_refl _) (by unfold maxLen; omega) rfl
theorem results_rseal (tmps : Array Value) (g : Nat) (x y z : Value) (s : ByteArray) (w : World) (hp : tmps.getD 10 undef = .pointer (some ⟨g, 0, none⟩)) (hu : tmps.getD 11 undef = .string s) (hc : w.heap[g]? = some (.cells #[x, y, z] 35 (0, 0))) :
    (results Try.f18 tmps).run Try.prog w = .ok (.tuple #[.agg #[x, y, z], .string s]) w := by
  have c0 : w.cell? ⟨g, 0, none⟩ = some x := Lib.cell_of_heap hc 0
  have c1 : w.cell? ⟨g, 1, none⟩ = some y := Lib.cell_of_heap hc 1
  have c2 : w.cell? ⟨g, 2, none⟩ = some z := Lib.cell_of_heap hc 2
  rw [results_cell_tmp Try.results18]
  simp only [hp, hu]
  go_simp
set_option maxHeartbeats 4000000 in
theorem rseal_any (sd nx : Nat) (v : Value) (G : List Ent) (fr : Int) (num : Nat) (cid plain : ByteArray) (w0 : World) (hr : RowE w0 v G) (hG : G.length ≤ 200) (hc : cid.size ≤ 1000) (hp : plain.size ≤ 1000) :
    Calls Try.prog 18 #[.agg #[.int .u64 sd, .int .u64 nx, v], .int .i64 fr, .int .u64 num, .string cid, .string plain] w0 (SealTo 66 sd nx G fr num cid plain w0) := by
  obtain ⟨va, vc, rfl⟩ := hr.form
  have HRW := Lib.hid hr
  clear hr
  obtain ⟨vn, hvn⟩ : ∃ n, G.length = n := ⟨_, rfl⟩
  rw [hvn] at HRW hG ⊢
  have CD : Hid (∀ W : World, Calls Try.prog 11 #[.int .u64 sd, .int .u64 nx, .int .i64 ((plain.size : Int) + 20)] W fun e w' => e = .returned (.string ⟨(drawN (baseN sd nx) (plain.size + 20)).toArray⟩) ∧ Below W.heap.size W w') := Lib.hid (fun W => by
    have h := rdraw_any sd nx ((plain.size : Int) + 20) W (by omega)
    rwa [show ((plain.size : Int) + 20).toNat = plain.size + 20 by omega] at h)
  have hds : (⟨(drawN (baseN sd nx) (plain.size + 20)).toArray⟩ : ByteArray).size = plain.size + 20 := drawN_len _ _
  have hss := sealS_size sd nx cid plain
  have HSS : Hid ((⟨#[64]⟩ ++ cid) ++ ⟨(drawN (baseN sd nx) (plain.size + 20)).toArray⟩ = sealS sd nx cid plain) := Lib.hid rfl
  obtain ⟨DD, hDD⟩ : ∃ s : ByteArray, ⟨(drawN (baseN sd nx) (plain.size + 20)).toArray⟩ = s := ⟨_, rfl⟩
  obtain ⟨SS, hSS⟩ : ∃ s : ByteArray, sealS sd nx cid plain = s := ⟨_, rfl⟩
  rw [hDD] at CD hds HSS
  rw [hSS] at HSS hss
  have HSSE := Lib.hid hSS
  have HD := Lib.hid hds
  have HVN := Lib.hid hvn
  have SN := Lib.hid (sum_lit nx 1 1 rfl)
  clear hDD hSS hds hvn
  obtain ⟨ps, hps⟩ : ∃ n, plain.size = n := ⟨_, rfl⟩
  rw [hps] at CD HD hss hp
  have HP := Lib.hid hps
  obtain ⟨cz, hcz⟩ : ∃ n, cid.size = n := ⟨_, rfl⟩
  rw [hcz] at hss hc
  have hps0 : (ps : Int) ≤ 1000 := by omega
  have hcz0 : (cz : Int) ≤ 1000 := by omega
  go_enter Try.func18, Try.ntmps18
  go_wp2_with fail
  with_reducible refine (CD.out _).mono ?_
  rintro e w1 ⟨rfl, hb⟩
  have hDs : DD.size = ps + 20 := HD.out
  have hs1 : w0.heap.size + 2 ≤ w1.heap.size := by have := hb.size; simp at this; omega
  have H5 := Lib.hid ((hb.block w0.heap.size (by simp; omega)).trans ((Below.heap_alloc _ _ w0.heap.size (by simp)).trans (heap_alloc_new w0 (.cells #[.int .u64 sd, .int .u64 nx, .slice va vn vc] 35))))
  have H6 := Lib.hid ((hb.block (w0.heap.size + 1) (by simp)).trans (heap_new2 w0 (.cells #[.int .u64 sd, .int .u64 nx, .slice va vn vc] 35) (.cells #[.int .u64 0, .int .u64 0, .slice none 0 0] 35)))
  have HW2 := Lib.hid ((((Below.refl w0.heap.size w0).alloc (Nat.le_refl _) (.cells #[.int .u64 sd, .int .u64 nx, .slice va vn vc] 35)).alloc (by simp) (.cells #[.int .u64 0, .int .u64 0, .slice none 0 0] 35)).trans (hb.mono (by simp; omega)))
  have hlt0 : w0.heap.size < w1.heap.size := by omega
  have H5a := Lib.hid ((Below.heap_alloc w1 (.cells #[] 66) w0.heap.size hlt0).trans H5.out)
  have H6a := Lib.hid ((Below.heap_alloc w1 (.cells #[] 66) (w0.heap.size + 1) (by omega)).trans H6.out)
  have d2a : (w1.alloc (.cells #[] 66)).cell? ⟨w0.heap.size, 2, none⟩ = some (.slice va vn vc) := Lib.cell_of_heap H5a.out 2
  have O0 := Lib.hid (own_made w1 66)
  have HW3 := Lib.hid (HW2.out.alloc (by omega) (.cells #[] 66))
  have R0 := Lib.hid (HRW.out.go HW3.out)
  have hG1 : G.length = vn := HVN.out
  clear hb
  go_wp2_with (at_builtin; refine wpList_append_E tyD _ rfl _ _ rfl w1.heap.size (.slice (some ⟨w1.heap.size, 0, none⟩) 0 0) rfl [] O0.out (.slice va vn vc) rfl G R0.out (by simp; omega) (by simp) ?_)
  intro a4 n4 c4 w2 o2 g2 _
  have hb2 : Below w1.heap.size (w1.alloc (.cells #[] 66)) w2 := (Below.refl _ _).grown g2 (by simp) (fun k hk => (O0.out.lt hk).1)
  have hs2 : w1.heap.size + 1 ≤ w2.heap.size := by have := hb2.size; simp at this; omega
  have O2 := Lib.hid (show OwnE 66 w2 w1.heap.size (.slice a4 n4 c4) G from o2)
  have H5b := Lib.hid ((hb2.block w0.heap.size hlt0).trans H5a.out)
  have H6b := Lib.hid ((hb2.block (w0.heap.size + 1) (by omega)).trans H6a.out)
  have HW4 := Lib.hid (HW3.out.trans (hb2.mono (by omega)))
  have O3 := Lib.hid (alloc_own O2.out (.cells #[.int .i64 fr, .int .u64 num, .string SS, .string plain] 66))
  have R3 := Lib.hid (row_one w2 66 ⟨fr, num, SS, plain⟩)
  rw [HSS.out]
  clear o2 g2 hb2 d2a
  go_wp2_with (at_builtin; refine wpList_append_E tyD _ rfl _ _ rfl w1.heap.size (.slice a4 n4 c4) rfl G O3.out (.slice (some ⟨w2.heap.size, 0, none⟩) 1 1) rfl [⟨fr, num, SS, plain⟩] R3.out (by simp; omega) (by simp; omega) ?_)
  intro a5 n5 c5 w3 o5 g5 _
  have hb3 : Below w1.heap.size w2 w3 := ((Below.refl _ _).alloc (by omega) _).grown g5 (by simp; omega) (fun k hk => (World.ownsRow.lt O2.out k hk).1)
  have O5 := Lib.hid o5
  have hn5 : n5 = vn + 1 := by
    obtain ⟨a, c, he⟩ := o5.form
    injection he with e1 e2 e3
    rw [e2, List.length_append, hG1]; rfl
  subst hn5
  have H5c := Lib.hid ((hb3.block w0.heap.size hlt0).trans H5b.out)
  have H6c := Lib.hid ((hb3.block (w0.heap.size + 1) (by omega)).trans H6b.out)
  have HW5 := Lib.hid (HW4.out.trans (hb3.mono (by omega)))
  have b0 : w3.cell? ⟨w0.heap.size, 0, none⟩ = _ := Lib.cell_of_heap H5c.out 0
  have b1 : w3.cell? ⟨w0.heap.size, 1, none⟩ = _ := Lib.cell_of_heap H5c.out 1
  have b2 : w3.cell? ⟨w0.heap.size, 2, none⟩ = _ := Lib.cell_of_heap H5c.out 2
  have bf : ∀ k, w3.frozen? ⟨w0.heap.size, k, none⟩ = false := fun k => Lib.frozen_of_heap H5c.out k
  have z0 : w3.cell? ⟨w0.heap.size + 1, 0, none⟩ = _ := Lib.cell_of_heap H6c.out 0
  have z1 : w3.cell? ⟨w0.heap.size + 1, 1, none⟩ = _ := Lib.cell_of_heap H6c.out 1
  have z2 : w3.cell? ⟨w0.heap.size + 1, 2, none⟩ = _ := Lib.cell_of_heap H6c.out 2
  have zf : ∀ k, w3.frozen? ⟨w0.heap.size + 1, k, none⟩ = false := fun k => Lib.frozen_of_heap H6c.out k
  clear o5 g5 hb3 hs2
  go_wp2_with fail
  have hX : Hid (((w3.setCell ⟨w0.heap.size, 2, none⟩ (.slice a5 (vn + 1) c5)).setCell ⟨w0.heap.size, 1, none⟩ (.int .u64 (IntKind.u64.wrap ((nx : Int) + 1)))).heap[w0.heap.size + 1]? = some (.cells #[.int .u64 0, .int .u64 0, .slice none 0 0] 35 (0, 0))) := Lib.hid ((Below.heap_setCell _ _ _ _ (by show _ ≠ _; simp)).trans ((Below.heap_setCell _ _ _ _ (by show _ ≠ _; simp)).trans H6c.out))
  have HF := Lib.hid (three_put hX.out (.int .u64 sd) (.int .u64 (IntKind.u64.wrap ((nx : Int) + 1))) (.slice a5 (vn + 1) c5))
  have hlt1 : w0.heap.size + 1 < w1.heap.size := by omega
  have HO : Hid (OwnE 66 (((((w3.setCell ⟨w0.heap.size, 2, none⟩ (.slice a5 (vn + 1) c5)).setCell ⟨w0.heap.size, 1, none⟩ (.int .u64 (IntKind.u64.wrap ((nx : Int) + 1)))).setCell ⟨w0.heap.size + 1, 0, none⟩ (.int .u64 sd)).setCell ⟨w0.heap.size + 1, 1, none⟩ (.int .u64 (IntKind.u64.wrap ((nx : Int) + 1)))).setCell ⟨w0.heap.size + 1, 2, none⟩ (.slice a5 (vn + 1) c5)) w1.heap.size (.slice a5 (vn + 1) c5) (G ++ [⟨fr, num, SS, plain⟩])) :=
    Lib.hid (ownsRow_setCell_below (ownsRow_setCell_below (ownsRow_setCell_below (ownsRow_setCell_below (ownsRow_setCell_below O5.out (a := ⟨w0.heap.size, 2, none⟩) hlt0 _) (a := ⟨w0.heap.size, 1, none⟩) hlt0 _) (a := ⟨w0.heap.size + 1, 0, none⟩) hlt1 _) (a := ⟨w0.heap.size + 1, 1, none⟩) hlt1 _) (a := ⟨w0.heap.size + 1, 2, none⟩) hlt1 _)
  have HBF : Hid (Below w0.heap.size w0 (((((w3.setCell ⟨w0.heap.size, 2, none⟩ (.slice a5 (vn + 1) c5)).setCell ⟨w0.heap.size, 1, none⟩ (.int .u64 (IntKind.u64.wrap ((nx : Int) + 1)))).setCell ⟨w0.heap.size + 1, 0, none⟩ (.int .u64 sd)).setCell ⟨w0.heap.size + 1, 1, none⟩ (.int .u64 (IntKind.u64.wrap ((nx : Int) + 1)))).setCell ⟨w0.heap.size + 1, 2, none⟩ (.slice a5 (vn + 1) c5))) :=
    Lib.hid (Below.setCell (Below.setCell (Below.setCell (Below.setCell (Below.setCell HW5.out (p := ⟨w0.heap.size, 2, none⟩) (Nat.le_refl _) _) (p := ⟨w0.heap.size, 1, none⟩) (Nat.le_refl _) _) (p := ⟨w0.heap.size + 1, 0, none⟩) (Nat.le_succ _) _) (p := ⟨w0.heap.size + 1, 1, none⟩) (Nat.le_succ _) _) (p := ⟨w0.heap.size + 1, 2, none⟩) (Nat.le_succ _) _)
  refine bodyPost_ret (results_rseal _ (w0.heap.size + 1) _ _ _ SS _ rfl rfl HF.out) rfl ?_
  have hSE := HSSE.out
  have hVE := HVN.out
  refine ⟨a5, c5, ?_, ?_, HBF.out⟩
  · rw [hSE, hVE, ← SN.out]
  · rw [hSE, hVE]
    exact HO.out.mono (by omega)
end Go.Proofs.Ytffjnfoleofffaa.Id
