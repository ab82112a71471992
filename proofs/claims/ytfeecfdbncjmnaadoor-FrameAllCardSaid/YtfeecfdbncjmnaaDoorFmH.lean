/- The walks of layer 6: readTexts of a Cid and a Token. By tools/gen-frame-7.py. -/
import Derived.Test.YtfeecfdbncjmnaaDoorFmD
namespace Go.Proofs.YtfeecfdbncjmnaaDoor.Fm
set_option maxRecDepth 20000
open Go.RowKit Vm
set_option linter.unusedVariables false
set_option linter.unusedSimpArgs false

set_option maxHeartbeats 4000000 in
theorem rt_cid (b : Nat) (c : UInt8) (t : List UInt8) (f : Frm) (p : Nat) (w : World) (h : FBk b (c :: t) f w) (hl : t.length ≤ 100000) (hp : p < 8192) (h7 : p.testBit 7 = false) (h12 : p.testBit 12 = false) (h8 : p.testBit 8 = true) (h9 : p.testBit 9 = true) (hk : f.kind = 24) (hn : c.toNat ≤ t.length) (hn2 : 16 ≤ (t.drop c.toNat).length) : Calls Tryd.prog 56 #[.pointer (some ⟨b, 0, none⟩), .int .u64 (p : Nat)] w fun e w' => (∃ v, e = .returned v) ∧ FBk b ((t.drop c.toNat).drop 16) { f with cid := t.take c.toNat, token := (t.drop c.toNat).take 16 } w' ∧ It.Only (fun k => k = b) w w' := by
  have e7 : (bits .and .u64 ((p : Nat) : Int) 128 != 0) = false := bitF p 7 hp (by decide) _ h7
  have e12 : (bits .and .u64 ((p : Nat) : Int) 4096 != 0) = false := bitF p 12 hp (by decide) _ h12
  have e8 : (bits .and .u64 ((p : Nat) : Int) 256 != 0) = true := bitF p 8 hp (by decide) _ h8
  have e9 : (bits .and .u64 ((p : Nat) : Int) 512 != 0) = true := bitF p 9 hp (by decide) _ h9
  clear h7 h12 h8 h9
  have CN := Lib.hid (fun w (h : FBk b (c :: t) f w) => number_ok b c t f w h (by simp; omega))
  have CT := Lib.hid (fun w (h : FBk b t f w) => take_ok b t f c.toNat w h (by omega) hn)
  have CU : Hid (∀ w, FBk b (t.drop c.toNat) { f with cid := t.take c.toNat } w → Calls Tryd.prog 64 #[.pointer (some ⟨b, 0, none⟩), .int .u64 16] w fun e w' => e = .returned (.string ⟨((t.drop c.toNat).take 16).toArray⟩) ∧ FBk b ((t.drop c.toNat).drop 16) { f with cid := t.take c.toNat } w' ∧ It.Only (fun k => k = b) w w') := Lib.hid (fun w h => take_ok b _ _ 16 w h (by rw [List.length_drop]; omega) hn2)
  have CK := Lib.hid tokenLen_id
  have e16 : IntKind.u64.wrap 16 = 16 := by decide
  have HB0 : Hid (FBk b (c :: t) f w.drew) := Lib.hid (h.keep (below_drewN (Below.refl w.heap.size w) 1))
  clear h hn hn2
  go_enter Tryd.func56, Tryd.ntmps56
  go_wp2_with fail
  go_region_with (first | (go_at_call 52; (with_reducible refine (CN.out _ HB0.out).mono ?_); rintro e w1 ⟨rfl, hb, ho⟩; have HB1 := Lib.hid hb; have HO1 := Lib.hid ho; clear hb ho) | (go_at_call 64; (with_reducible refine (CT.out _ HB1.out).mono ?_); rintro e w2 ⟨rfl, hb, ho⟩; have HB2 := Lib.hid hb; have HO2 := Lib.hid ho; have cA := HB2.out.cell11; have fA := HB2.out.fz 11; clear hb ho))
  all_goals
    have HB3 : Hid (FBk b (t.drop c.toNat) { f with cid := t.take c.toNat } (w2.setCell ⟨b, 11, none⟩ (.string ⟨(t.take c.toNat).toArray⟩))) := Lib.hid (HB2.out.set11 _)
    have HO3 : Hid (It.Only (fun k => k = b) w (w2.setCell ⟨b, 11, none⟩ (.string ⟨(t.take c.toNat).toArray⟩))) := Lib.hid ((((It.Only.drew _ w).trans HO1.out).trans HO2.out).trans (It.Only.setCell (O := fun k => k = b) (p := ⟨b, 11, none⟩) rfl _ _))
    clear cA fA
    go_wp2_with fail
    generalize w2.setCell ⟨b, 11, none⟩ (.string ⟨(t.take c.toNat).toArray⟩) = W3 at HB3 HO3 ⊢
    have HB4 : Hid (FBk b (t.drop c.toNat) { f with cid := t.take c.toNat } W3.drew) := Lib.hid (HB3.out.keep (below_drewN (Below.refl W3.heap.size W3) 1))
    have c1 : W3.drew.cell? ⟨b, 1, none⟩ = some (.int .u64 24) := by rw [← hk]; exact HB4.out.cell1
    go_region_with (first | (go_at_call 58; (with_reducible refine (CK.out _).mono ?_); rintro e wt ⟨rfl, rfl⟩) | (go_at_call 64; (with_reducible refine (CU.out _ HB4.out).mono ?_); rintro e w5 ⟨rfl, hb, ho⟩; have HB5 := Lib.hid hb; have HO5 := Lib.hid ho; have cB := HB5.out.cell12; have fB := HB5.out.fz 12; clear hb ho))
    all_goals
      go_wp2
      first | go_end0 | refine bodyPost_ret (results_none rfl _ _ _) rfl ?_
      exact ⟨⟨_, rfl⟩, HB5.out.set12 _, ((HO3.out.trans (It.Only.drew _ _)).trans HO5.out).trans (It.Only.setCell (O := fun k => k = b) (p := ⟨b, 12, none⟩) rfl _ _)⟩
set_option maxHeartbeats 4000000 in
theorem rt_cid_no1 (b : Nat) (t : List UInt8) (f : Frm) (p : Nat) (w : World) (h : FBk b [] f w) (hl : t.length ≤ 100000) (hp : p < 8192) (h7 : p.testBit 7 = false) (h12 : p.testBit 12 = false) (h8 : p.testBit 8 = true) (h9 : p.testBit 9 = true) (hk : f.kind = 24) : Calls Tryd.prog 56 #[.pointer (some ⟨b, 0, none⟩), .int .u64 (p : Nat)] w fun e w' => e = .panicked GU ∧ (∃ l2 f2, FBk b l2 f2 w') ∧ It.Only (fun k => k = b) w w' := by
  have e7 : (bits .and .u64 ((p : Nat) : Int) 128 != 0) = false := bitF p 7 hp (by decide) _ h7
  have e12 : (bits .and .u64 ((p : Nat) : Int) 4096 != 0) = false := bitF p 12 hp (by decide) _ h12
  have e8 : (bits .and .u64 ((p : Nat) : Int) 256 != 0) = true := bitF p 8 hp (by decide) _ h8
  have e9 : (bits .and .u64 ((p : Nat) : Int) 512 != 0) = true := bitF p 9 hp (by decide) _ h9
  clear h7 h12 h8 h9
  have CN := Lib.hid (fun w (h : FBk b [] f w) => number_no b f w h)
  have HB0 : Hid (FBk b [] f w.drew) := Lib.hid (h.keep (below_drewN (Below.refl w.heap.size w) 1))
  clear h
  go_enter Tryd.func56, Tryd.ntmps56
  go_wp2_with fail
  refine wp_region_held_drew (S := fun w' => It.Only (fun k => k = b) w w') (by kernel_rfl) ?_ (fun hHeld => ?_)
  · exact It.Only.drew _ w
  refine wpAnyH_take (i := 0) (v := ?_) rfl (by kernel_rfl) (by kernel_rfl) (by kernel_rfl) (fun _ _ _ h => h) (Or.inl ⟨by rfl, ?_⟩) (by assumption) ?_
  rotate_left
  · (intro w hSw; clear hSw; go_simp; (try with_reducible rfl))
  try simp only [Act.put, List.getElem_toArray, List.getElem_cons_zero, List.getElem_cons_succ, List.setIfInBounds_toArray, List.set_cons_zero, List.set_cons_succ]
  refine wpAnyH_take (i := 1) (v := ?_) rfl (by kernel_rfl) (by kernel_rfl) (by kernel_rfl) (fun _ _ _ h => h) (Or.inl ⟨by rfl, ?_⟩) (by assumption) ?_
  rotate_left
  · (intro w hSw; clear hSw; go_simp; (try with_reducible rfl))
  try simp only [Act.put, List.getElem_toArray, List.getElem_cons_zero, List.getElem_cons_succ, List.setIfInBounds_toArray, List.set_cons_zero, List.set_cons_succ]
  refine wpAnyH_take (i := 2) (v := ?_) rfl (by kernel_rfl) (by kernel_rfl) (by kernel_rfl) (fun _ _ _ h => h) (Or.inl ⟨by rfl, ?_⟩) (by assumption) ?_
  rotate_left
  · (intro w hSw; clear hSw; go_simp; (try with_reducible rfl))
  try simp only [Act.put, List.getElem_toArray, List.getElem_cons_zero, List.getElem_cons_succ, List.setIfInBounds_toArray, List.set_cons_zero, List.set_cons_succ]
  refine wpAnyH_take (i := 3) (v := ?_) rfl (by kernel_rfl) (by kernel_rfl) (by kernel_rfl) (fun _ _ _ h => h) (Or.inl ⟨by rfl, ?_⟩) (by assumption) ?_
  rotate_left
  · (intro w hSw; clear hSw; go_simp; (try with_reducible rfl))
  try simp only [Act.put, List.getElem_toArray, List.getElem_cons_zero, List.getElem_cons_succ, List.setIfInBounds_toArray, List.set_cons_zero, List.set_cons_succ]
  refine wpAnyH_take (i := 4) (v := ?_) rfl (by kernel_rfl) (by kernel_rfl) (by kernel_rfl) (fun _ _ _ h => h) (Or.inl ⟨by rfl, ?_⟩) (by assumption) ?_
  rotate_left
  · (intro w hSw; clear hSw; go_simp; (try with_reducible rfl))
  try simp only [Act.put, List.getElem_toArray, List.getElem_cons_zero, List.getElem_cons_succ, List.setIfInBounds_toArray, List.set_cons_zero, List.set_cons_succ]
  refine wpAnyH_take (i := 5) (v := ?_) rfl (by kernel_rfl) (by kernel_rfl) (by kernel_rfl) (fun _ _ _ h => h) (Or.inl ⟨by rfl, ?_⟩) (by assumption) ?_
  rotate_left
  · (intro w hSw; clear hSw; go_simp; (try with_reducible rfl))
  try simp only [Act.put, List.getElem_toArray, List.getElem_cons_zero, List.getElem_cons_succ, List.setIfInBounds_toArray, List.set_cons_zero, List.set_cons_succ]
  refine wpAnyH_take (i := 6) (v := ?_) rfl (by kernel_rfl) (by kernel_rfl) (by kernel_rfl) (fun _ _ _ h => h) (Or.inl ⟨by rfl, ?_⟩) (by assumption) ?_
  rotate_left
  · (intro w hSw; clear hSw; go_simp; (try with_reducible rfl))
  try simp only [Act.put, List.getElem_toArray, List.getElem_cons_zero, List.getElem_cons_succ, List.setIfInBounds_toArray, List.set_cons_zero, List.set_cons_succ]
  refine wpAnyH_ready (rs := [7]) (by kernel_rfl) (by simp) ?_
  refine AllReadyH.cons rfl (fun K hK => ?_) AllReadyH.nil
  rw [if_pos (by rfl)]
  go_simp
  refine (CN.out _ HB0.out).mono ?_
  rintro e wz ⟨rfl, hb, ho⟩
  exact ⟨rfl, rfl, ⟨_, _, hb⟩, (It.Only.drew _ w).trans ho⟩
set_option maxHeartbeats 4000000 in
theorem rt_cid_no2 (b : Nat) (c : UInt8) (t : List UInt8) (f : Frm) (p : Nat) (w : World) (h : FBk b (c :: t) f w) (hl : t.length ≤ 100000) (hp : p < 8192) (h7 : p.testBit 7 = false) (h12 : p.testBit 12 = false) (h8 : p.testBit 8 = true) (h9 : p.testBit 9 = true) (hk : f.kind = 24) (hn : t.length < c.toNat) : Calls Tryd.prog 56 #[.pointer (some ⟨b, 0, none⟩), .int .u64 (p : Nat)] w fun e w' => e = .panicked GU ∧ (∃ l2 f2, FBk b l2 f2 w') ∧ It.Only (fun k => k = b) w w' := by
  have e7 : (bits .and .u64 ((p : Nat) : Int) 128 != 0) = false := bitF p 7 hp (by decide) _ h7
  have e12 : (bits .and .u64 ((p : Nat) : Int) 4096 != 0) = false := bitF p 12 hp (by decide) _ h12
  have e8 : (bits .and .u64 ((p : Nat) : Int) 256 != 0) = true := bitF p 8 hp (by decide) _ h8
  have e9 : (bits .and .u64 ((p : Nat) : Int) 512 != 0) = true := bitF p 9 hp (by decide) _ h9
  clear h7 h12 h8 h9
  have CN := Lib.hid (fun w (h : FBk b (c :: t) f w) => number_ok b c t f w h (by simp; omega))
  have CT := Lib.hid (fun w (h : FBk b t f w) => take_no b t f c.toNat w h (by omega) hn)
  have HB0 : Hid (FBk b (c :: t) f w.drew) := Lib.hid (h.keep (below_drewN (Below.refl w.heap.size w) 1))
  clear h hn
  go_enter Tryd.func56, Tryd.ntmps56
  go_wp2_with fail
  refine wp_region_held_drew (S := fun w' => It.Only (fun k => k = b) w w') (by kernel_rfl) ?_ (fun hHeld => ?_)
  · exact It.Only.drew _ w
  refine wpAnyH_take (i := 0) (v := ?_) rfl (by kernel_rfl) (by kernel_rfl) (by kernel_rfl) (fun _ _ _ h => h) (Or.inl ⟨by rfl, ?_⟩) (by assumption) ?_
  rotate_left
  · (intro w hSw; clear hSw; go_simp; (try with_reducible rfl))
  try simp only [Act.put, List.getElem_toArray, List.getElem_cons_zero, List.getElem_cons_succ, List.setIfInBounds_toArray, List.set_cons_zero, List.set_cons_succ]
  refine wpAnyH_take (i := 1) (v := ?_) rfl (by kernel_rfl) (by kernel_rfl) (by kernel_rfl) (fun _ _ _ h => h) (Or.inl ⟨by rfl, ?_⟩) (by assumption) ?_
  rotate_left
  · (intro w hSw; clear hSw; go_simp; (try with_reducible rfl))
  try simp only [Act.put, List.getElem_toArray, List.getElem_cons_zero, List.getElem_cons_succ, List.setIfInBounds_toArray, List.set_cons_zero, List.set_cons_succ]
  refine wpAnyH_take (i := 2) (v := ?_) rfl (by kernel_rfl) (by kernel_rfl) (by kernel_rfl) (fun _ _ _ h => h) (Or.inl ⟨by rfl, ?_⟩) (by assumption) ?_
  rotate_left
  · (intro w hSw; clear hSw; go_simp; (try with_reducible rfl))
  try simp only [Act.put, List.getElem_toArray, List.getElem_cons_zero, List.getElem_cons_succ, List.setIfInBounds_toArray, List.set_cons_zero, List.set_cons_succ]
  refine wpAnyH_take (i := 3) (v := ?_) rfl (by kernel_rfl) (by kernel_rfl) (by kernel_rfl) (fun _ _ _ h => h) (Or.inl ⟨by rfl, ?_⟩) (by assumption) ?_
  rotate_left
  · (intro w hSw; clear hSw; go_simp; (try with_reducible rfl))
  try simp only [Act.put, List.getElem_toArray, List.getElem_cons_zero, List.getElem_cons_succ, List.setIfInBounds_toArray, List.set_cons_zero, List.set_cons_succ]
  refine wpAnyH_take (i := 4) (v := ?_) rfl (by kernel_rfl) (by kernel_rfl) (by kernel_rfl) (fun _ _ _ h => h) (Or.inl ⟨by rfl, ?_⟩) (by assumption) ?_
  rotate_left
  · (intro w hSw; clear hSw; go_simp; (try with_reducible rfl))
  try simp only [Act.put, List.getElem_toArray, List.getElem_cons_zero, List.getElem_cons_succ, List.setIfInBounds_toArray, List.set_cons_zero, List.set_cons_succ]
  refine wpAnyH_take (i := 5) (v := ?_) rfl (by kernel_rfl) (by kernel_rfl) (by kernel_rfl) (fun _ _ _ h => h) (Or.inl ⟨by rfl, ?_⟩) (by assumption) ?_
  rotate_left
  · (intro w hSw; clear hSw; go_simp; (try with_reducible rfl))
  try simp only [Act.put, List.getElem_toArray, List.getElem_cons_zero, List.getElem_cons_succ, List.setIfInBounds_toArray, List.set_cons_zero, List.set_cons_succ]
  refine wpAnyH_take (i := 6) (v := ?_) rfl (by kernel_rfl) (by kernel_rfl) (by kernel_rfl) (fun _ _ _ h => h) (Or.inl ⟨by rfl, ?_⟩) (by assumption) ?_
  rotate_left
  · (intro w hSw; clear hSw; go_simp; (try with_reducible rfl))
  try simp only [Act.put, List.getElem_toArray, List.getElem_cons_zero, List.getElem_cons_succ, List.setIfInBounds_toArray, List.set_cons_zero, List.set_cons_succ]
  refine wpAnyH_ready (rs := [7]) (by kernel_rfl) (by simp) ?_
  refine AllReadyH.cons rfl (fun K hK => ?_) AllReadyH.nil
  rw [if_pos (by rfl)]
  go_simp
  refine (CN.out _ HB0.out).mono ?_
  rintro e w1 ⟨rfl, hb, ho⟩
  refine hK.out _ _ ?_ (fun hHeld => ?_)
  · exact (It.Only.drew _ w).trans ho
  clear hK K
  try simp only [Act.put, List.getElem_toArray, List.getElem_cons_zero, List.getElem_cons_succ, List.setIfInBounds_toArray, List.set_cons_zero, List.set_cons_succ]
  refine wpAnyH_ready (rs := [8]) (by kernel_rfl) (by simp) ?_
  refine AllReadyH.cons rfl (fun K hK => ?_) AllReadyH.nil
  rw [if_pos (by rfl)]
  go_simp
  refine (CT.out _ hb).mono ?_
  rintro e wz ⟨rfl, hb2, ho2⟩
  exact ⟨rfl, rfl, ⟨_, _, hb2⟩, ((It.Only.drew _ w).trans ho).trans ho2⟩
set_option maxHeartbeats 4000000 in
theorem rt_cid_no3 (b : Nat) (c : UInt8) (t : List UInt8) (f : Frm) (p : Nat) (w : World) (h : FBk b (c :: t) f w) (hl : t.length ≤ 100000) (hp : p < 8192) (h7 : p.testBit 7 = false) (h12 : p.testBit 12 = false) (h8 : p.testBit 8 = true) (h9 : p.testBit 9 = true) (hk : f.kind = 24) (hn : c.toNat ≤ t.length) (hn2 : (t.drop c.toNat).length < 16) : Calls Tryd.prog 56 #[.pointer (some ⟨b, 0, none⟩), .int .u64 (p : Nat)] w fun e w' => e = .panicked GU ∧ (∃ l2 f2, FBk b l2 f2 w') ∧ It.Only (fun k => k = b) w w' := by
  have e7 : (bits .and .u64 ((p : Nat) : Int) 128 != 0) = false := bitF p 7 hp (by decide) _ h7
  have e12 : (bits .and .u64 ((p : Nat) : Int) 4096 != 0) = false := bitF p 12 hp (by decide) _ h12
  have e8 : (bits .and .u64 ((p : Nat) : Int) 256 != 0) = true := bitF p 8 hp (by decide) _ h8
  have e9 : (bits .and .u64 ((p : Nat) : Int) 512 != 0) = true := bitF p 9 hp (by decide) _ h9
  clear h7 h12 h8 h9
  have CN := Lib.hid (fun w (h : FBk b (c :: t) f w) => number_ok b c t f w h (by simp; omega))
  have CT := Lib.hid (fun w (h : FBk b t f w) => take_ok b t f c.toNat w h (by omega) hn)
  have CU : Hid (∀ w, FBk b (t.drop c.toNat) { f with cid := t.take c.toNat } w → Calls Tryd.prog 64 #[.pointer (some ⟨b, 0, none⟩), .int .u64 16] w fun e w' => e = .panicked GU ∧ FBk b (t.drop c.toNat) { f with cid := t.take c.toNat } w' ∧ It.Only (fun k => k = b) w w') := Lib.hid (fun w h => take_no b _ _ 16 w h (by rw [List.length_drop]; omega) hn2)
  have CK := Lib.hid tokenLen_id
  have e16 : IntKind.u64.wrap 16 = 16 := by decide
  have HK := Lib.hid hk
  have HB0 : Hid (FBk b (c :: t) f w.drew) := Lib.hid (h.keep (below_drewN (Below.refl w.heap.size w) 1))
  clear h hn hn2
  go_enter Tryd.func56, Tryd.ntmps56
  go_wp2_with fail
  go_region_with (first | (go_at_call 52; (with_reducible refine (CN.out _ HB0.out).mono ?_); rintro e w1 ⟨rfl, hb, ho⟩; have HB1 := Lib.hid hb; have HO1 := Lib.hid ho; clear hb ho) | (go_at_call 64; (with_reducible refine (CT.out _ HB1.out).mono ?_); rintro e w2 ⟨rfl, hb, ho⟩; have HB2 := Lib.hid hb; have HO2 := Lib.hid ho; have cA := HB2.out.cell11; have fA := HB2.out.fz 11; clear hb ho))
  all_goals
    have HB3 : Hid (FBk b (t.drop c.toNat) { f with cid := t.take c.toNat } (w2.setCell ⟨b, 11, none⟩ (.string ⟨(t.take c.toNat).toArray⟩))) := Lib.hid (HB2.out.set11 _)
    have HO3 : Hid (It.Only (fun k => k = b) w (w2.setCell ⟨b, 11, none⟩ (.string ⟨(t.take c.toNat).toArray⟩))) := Lib.hid ((((It.Only.drew _ w).trans HO1.out).trans HO2.out).trans (It.Only.setCell (O := fun k => k = b) (p := ⟨b, 11, none⟩) rfl _ _))
    clear cA fA
    go_wp2_with fail
    generalize w2.setCell ⟨b, 11, none⟩ (.string ⟨(t.take c.toNat).toArray⟩) = W3 at HB3 HO3 ⊢
    have HB4 : Hid (FBk b (t.drop c.toNat) { f with cid := t.take c.toNat } W3.drew) := Lib.hid (HB3.out.keep (below_drewN (Below.refl W3.heap.size W3) 1))
    have c1 : W3.drew.cell? ⟨b, 1, none⟩ = some (.int .u64 24) := by rw [← hk]; exact HB4.out.cell1
    refine wp_region_held_drew (S := FBk b (t.drop c.toNat) { f with cid := t.take c.toNat }) (by kernel_rfl) ?_ (fun hHeld => ?_)
    · exact HB4.out
    refine wpAnyH_take (i := 0) (v := ?_) rfl (by kernel_rfl) (by kernel_rfl) (by kernel_rfl) (fun _ _ _ h => h) (Or.inl ⟨by rfl, ?_⟩) (by assumption) ?_
    rotate_left
    · (intro w hSw; clear hSw; go_simp; (try with_reducible rfl))
    try simp only [Act.put, List.getElem_toArray, List.getElem_cons_zero, List.getElem_cons_succ, List.setIfInBounds_toArray, List.set_cons_zero, List.set_cons_succ]
    refine wpAnyH_take (i := 1) (v := ?_) rfl (by kernel_rfl) (by kernel_rfl) (by kernel_rfl) (fun _ _ _ h => h) (Or.inl ⟨by rfl, ?_⟩) (by assumption) ?_
    rotate_left
    · (intro w hSw; clear hSw; go_simp; (try with_reducible rfl))
    try simp only [Act.put, List.getElem_toArray, List.getElem_cons_zero, List.getElem_cons_succ, List.setIfInBounds_toArray, List.set_cons_zero, List.set_cons_succ]
    refine wpAnyH_take (i := 2) (v := ?_) rfl (by kernel_rfl) (by kernel_rfl) (by kernel_rfl) (fun _ _ _ h => h) (Or.inl ⟨by rfl, ?_⟩) (by assumption) ?_
    rotate_left
    · (intro w hSw; clear hSw; go_simp; (try with_reducible rfl))
    try simp only [Act.put, List.getElem_toArray, List.getElem_cons_zero, List.getElem_cons_succ, List.setIfInBounds_toArray, List.set_cons_zero, List.set_cons_succ]
    refine wpAnyH_take (i := 3) (v := ?_) rfl (by kernel_rfl) (by kernel_rfl) (by kernel_rfl) (fun _ _ _ h => h) (Or.inl ⟨by rfl, ?_⟩) (by assumption) ?_
    rotate_left
    · (intro w hSw; clear hSw; go_simp; (try with_reducible rfl))
    try simp only [Act.put, List.getElem_toArray, List.getElem_cons_zero, List.getElem_cons_succ, List.setIfInBounds_toArray, List.set_cons_zero, List.set_cons_succ]
    refine wpAnyH_take (i := 4) (v := ?_) rfl (by kernel_rfl) (by kernel_rfl) (by kernel_rfl) (fun _ _ _ h => h) (Or.inl ⟨by rfl, ?_⟩) (by assumption) ?_
    rotate_left
    · (intro w hSw; clear hSw; go_simp; (try with_reducible rfl))
    try simp only [Act.put, List.getElem_toArray, List.getElem_cons_zero, List.getElem_cons_succ, List.setIfInBounds_toArray, List.set_cons_zero, List.set_cons_succ]
    refine wpAnyH_take (i := 5) (v := ?_) rfl (by kernel_rfl) (by kernel_rfl) (by kernel_rfl) (fun _ _ _ h => h) (Or.inl ⟨by rfl, ?_⟩) (by assumption) ?_
    rotate_left
    · (intro w hSw; clear hSw; go_simp; (try with_reducible rfl))
    try simp only [Act.put, List.getElem_toArray, List.getElem_cons_zero, List.getElem_cons_succ, List.setIfInBounds_toArray, List.set_cons_zero, List.set_cons_succ]
    refine wpAnyH_take (i := 6) (v := ?_) rfl (by kernel_rfl) (by kernel_rfl) (by kernel_rfl) (fun _ _ _ h => h) (Or.inl ⟨by rfl, ?_⟩) (by assumption) ?_
    rotate_left
    · (intro w hSw; clear hSw; go_simp; (try with_reducible rfl))
    try simp only [Act.put, List.getElem_toArray, List.getElem_cons_zero, List.getElem_cons_succ, List.setIfInBounds_toArray, List.set_cons_zero, List.set_cons_succ]
    refine wpAnyH_take (i := 7) (v := ?_) rfl (by kernel_rfl) (by kernel_rfl) (by kernel_rfl) (fun _ _ _ h => h) (Or.inl ⟨by rfl, ?_⟩) (by assumption) ?_
    rotate_left
    · (intro w hSw; clear hSw; go_simp; (try with_reducible rfl))
    try simp only [Act.put, List.getElem_toArray, List.getElem_cons_zero, List.getElem_cons_succ, List.setIfInBounds_toArray, List.set_cons_zero, List.set_cons_succ]
    refine wpAnyH_take (i := 8) (v := ?_) rfl (by kernel_rfl) (by kernel_rfl) (by kernel_rfl) (fun _ _ _ h => h) (Or.inl ⟨by rfl, ?_⟩) (by assumption) ?_
    rotate_left
    · (intro w hSw; have z := hSw.cell1; rw [show ({ f with cid := t.take c.toNat } : Frm).kind = 24 from HK.out] at z; clear hSw; go_simp; (try with_reducible rfl))
    try simp only [Act.put, List.getElem_toArray, List.getElem_cons_zero, List.getElem_cons_succ, List.setIfInBounds_toArray, List.set_cons_zero, List.set_cons_succ]
    refine wpAnyH_ready (rs := [9]) (by kernel_rfl) (by simp) ?_
    refine AllReadyH.cons rfl (fun K hK => ?_) AllReadyH.nil
    rw [if_pos (by rfl)]
    go_simp
    refine (CK.out _).mono ?_
    rintro e wt ⟨rfl, rfl⟩
    refine hK.out _ _ ?_ (fun hHeld => ?_)
    · exact hHeld
    clear hK K
    try simp only [Act.put, List.getElem_toArray, List.getElem_cons_zero, List.getElem_cons_succ, List.setIfInBounds_toArray, List.set_cons_zero, List.set_cons_succ]
    refine wpAnyH_take (i := 10) (v := ?_) rfl (by kernel_rfl) (by kernel_rfl) (by kernel_rfl) (fun _ _ _ h => h) (Or.inl ⟨by rfl, ?_⟩) (by assumption) ?_
    rotate_left
    · (intro w hSw; clear hSw; go_simp; (try with_reducible rfl))
    try simp only [Act.put, List.getElem_toArray, List.getElem_cons_zero, List.getElem_cons_succ, List.setIfInBounds_toArray, List.set_cons_zero, List.set_cons_succ]
    refine wpAnyH_ready (rs := [11]) (by kernel_rfl) (by simp) ?_
    refine AllReadyH.cons rfl (fun K hK => ?_) AllReadyH.nil
    rw [if_pos (by rfl)]
    go_simp
    refine (CU.out _ hHeld).mono ?_
    rintro e wz ⟨rfl, hb2, ho2⟩
    exact ⟨rfl, rfl, ⟨_, _, hb2⟩, (HO3.out.trans (It.Only.drew _ _)).trans ho2⟩
end Go.Proofs.YtfeecfdbncjmnaaDoor.Fm
