/- The walks of layer 6: readTexts, by the texts that the parts have. By tools/gen-frame-4.py. -/
import Derived.Test.YtfeecfdbncjmnaaDoorFmC
import Derived.Deep.RegionWith
import Derived.Deep.RegionHeld3
namespace Go.Proofs.YtfeecfdbncjmnaaDoor.Fm
set_option maxRecDepth 20000
open Go.RowKit Vm
set_option linter.unusedVariables false
set_option linter.unusedSimpArgs false

/-- Which texts the parts have: Data, Data without a length, Cid, Token. -/
def tx (p : Nat) : Bool × Bool × Bool × Bool := (p.testBit 7, p.testBit 12, p.testBit 8, p.testBit 9)
theorem bitF (p i : Nat) (hp : p < 8192) (hi : 2 ^ i < 8192) (b : Bool) (h : p.testBit i = b) : (bits .and .u64 ((p : Nat) : Int) ((2 ^ i : Nat) : Int) != 0) = b := by
  rw [and_u64 p (2 ^ i) hp hi, bit_ne, h]
set_option maxHeartbeats 2000000 in
theorem rt_none (b : Nat) (l : List UInt8) (f : Frm) (p : Nat) (w : World) (ht : Tab w) (h : FBk b l f w) (hl : l.length ≤ 100000) (hp : p < 8192) (h7 : p.testBit 7 = false) (h12 : p.testBit 12 = false) (h8 : p.testBit 8 = false) (h9 : p.testBit 9 = false) : Calls Tryd.prog 56 #[.pointer (some ⟨b, 0, none⟩), .int .u64 (p : Nat)] w fun e w' => (∃ v, e = .returned v) ∧ w' = w := by
  have e7 : (bits .and .u64 ((p : Nat) : Int) 128 != 0) = false := bitF p 7 hp (by decide) _ h7
  have e12 : (bits .and .u64 ((p : Nat) : Int) 4096 != 0) = false := bitF p 12 hp (by decide) _ h12
  have e8 : (bits .and .u64 ((p : Nat) : Int) 256 != 0) = false := bitF p 8 hp (by decide) _ h8
  have e9 : (bits .and .u64 ((p : Nat) : Int) 512 != 0) = false := bitF p 9 hp (by decide) _ h9
  clear h7 h12 h8 h9
  go_enter Tryd.func56, Tryd.ntmps56
  go_wp2
  first | go_end0 | refine bodyPost_ret (results_none rfl _ _ _) rfl ?_
  exact ⟨⟨_, rfl⟩, rfl⟩
set_option maxHeartbeats 2000000 in
theorem rt_data (b : Nat) (l : List UInt8) (f : Frm) (p : Nat) (w : World) (ht : Tab w) (h : FBk b l f w) (hl : l.length ≤ 100000) (hp : p < 8192) (h7 : p.testBit 7 = true) (h12 : p.testBit 12 = false) (h8 : p.testBit 8 = false) (h9 : p.testBit 9 = false) (hg : gk l ≤ l.length) (hn : gN l ≤ (gR l).length) : Calls Tryd.prog 56 #[.pointer (some ⟨b, 0, none⟩), .int .u64 (p : Nat)] w fun e w' => (∃ v, e = .returned v) ∧ FBk b ((gR l).drop (gN l)) { f with data := (gR l).take (gN l) } w' ∧ It.Only (fun k => k = b) w w' := by
  have e7 : (bits .and .u64 ((p : Nat) : Int) 128 != 0) = true := bitF p 7 hp (by decide) _ h7
  have e12 : (bits .and .u64 ((p : Nat) : Int) 4096 != 0) = false := bitF p 12 hp (by decide) _ h12
  have e8 : (bits .and .u64 ((p : Nat) : Int) 256 != 0) = false := bitF p 8 hp (by decide) _ h8
  have e9 : (bits .and .u64 ((p : Nat) : Int) 512 != 0) = false := bitF p 9 hp (by decide) _ h9
  clear h7 h12 h8 h9
  have CV := Lib.hid (fun w (ht : Tab w) (h : FBk b l f w) => varint_ok b l f w ht h (by omega) hg)
  have hr : (gR l).length ≤ 100000 := by rw [(g_ok hg).2.1, List.length_drop]; omega
  have CT := Lib.hid (fun w (h : FBk b (gR l) f w) => take_ok b (gR l) f (gN l) w h (by omega) hn)
  have HT0 : Hid (Tab w.drew) := Lib.hid (ht.below (below_drewN (Below.refl w.heap.size w) 1) ht.lt)
  have HB0 : Hid (FBk b l f w.drew) := Lib.hid (h.keep (below_drewN (Below.refl w.heap.size w) 1))
  clear h hg hn ht
  go_enter Tryd.func56, Tryd.ntmps56
  go_wp2_with fail
  go_region_with (first | (go_at_call 55; (with_reducible refine (CV.out _ HT0.out HB0.out).mono ?_); rintro e w1 ⟨rfl, hb, ho⟩; have HB1 := Lib.hid hb; have HO1 := Lib.hid ho; clear hb ho) | (go_at_call 64; (with_reducible refine (CT.out _ HB1.out).mono ?_); rintro e w2 ⟨rfl, hb, ho⟩; have HB2 := Lib.hid hb; have HO2 := Lib.hid ho; have cA := HB2.out.cell10; have fA := HB2.out.fz 10; clear hb ho))
  all_goals
    go_wp2
    first | go_end0 | refine bodyPost_ret (results_none rfl _ _ _) rfl ?_
    exact ⟨⟨_, rfl⟩, HB2.out.set10 _, (((It.Only.drew _ w).trans HO1.out).trans HO2.out).trans (It.Only.setCell (O := fun k => k = b) (p := ⟨b, 10, none⟩) rfl _ _)⟩
set_option maxHeartbeats 2000000 in
theorem rt_data_no1 (b : Nat) (l : List UInt8) (f : Frm) (p : Nat) (w : World) (ht : Tab w) (h : FBk b l f w) (hl : l.length ≤ 100000) (hp : p < 8192) (h7 : p.testBit 7 = true) (h12 : p.testBit 12 = false) (h8 : p.testBit 8 = false) (h9 : p.testBit 9 = false) (hg : l.length < gk l) : Calls Tryd.prog 56 #[.pointer (some ⟨b, 0, none⟩), .int .u64 (p : Nat)] w fun e w' => e = .panicked GU ∧ (∃ l2 f2, FBk b l2 f2 w') ∧ It.Only (fun k => k = b) w w' := by
  have e7 : (bits .and .u64 ((p : Nat) : Int) 128 != 0) = true := bitF p 7 hp (by decide) _ h7
  have e12 : (bits .and .u64 ((p : Nat) : Int) 4096 != 0) = false := bitF p 12 hp (by decide) _ h12
  have e8 : (bits .and .u64 ((p : Nat) : Int) 256 != 0) = false := bitF p 8 hp (by decide) _ h8
  have e9 : (bits .and .u64 ((p : Nat) : Int) 512 != 0) = false := bitF p 9 hp (by decide) _ h9
  clear h7 h12 h8 h9
  have CV := Lib.hid (fun w (ht : Tab w) (h : FBk b l f w) => varint_no b l f w ht h (by omega) hg)
  have HT0 : Hid (Tab w.drew) := Lib.hid (ht.below (below_drewN (Below.refl w.heap.size w) 1) ht.lt)
  have HB0 : Hid (FBk b l f w.drew) := Lib.hid (h.keep (below_drewN (Below.refl w.heap.size w) 1))
  clear h hg ht
  go_enter Tryd.func56, Tryd.ntmps56
  go_wp2_with fail
  refine wp_region_held_drew (S := fun w' => It.Only (fun k => k = b) w w') (by kernel_rfl) ?_ (fun hHeld => ?_)
  · exact It.Only.drew _ w
  refine wpAnyH_take (i := 0) (v := ?_) rfl (by kernel_rfl) (by kernel_rfl) (by kernel_rfl) (fun _ _ _ h => h) (Or.inl ⟨by rfl, ?_⟩) (by assumption) ?_
  rotate_left
  · (intro w hSw; clear hSw; go_simp; (try with_reducible rfl))
  try simp only [Act.put, List.getElem_toArray, List.getElem_cons_zero, List.getElem_cons_succ, List.setIfInBounds_toArray, List.set_cons_zero, List.set_cons_succ]
  refine wpAnyH_take (i := 1) (v := ?_) rfl (by kernel_rfl) (by kernel_rfl) (by kernel_rfl) (fun _ _ _ h => h) (Or.inl ⟨by rfl, ?_⟩) (by assumption) ?_
  rotate_left
  · (intro w hSw; clear hSw; go_simp; (try with_reducible rfl))
  try simp only [Act.put, List.getElem_toArray, List.getElem_cons_zero, List.getElem_cons_succ, List.setIfInBounds_toArray, List.set_cons_zero, List.set_cons_succ]
  refine wpAnyH_take (i := 2) (v := ?_) rfl (by kernel_rfl) (by kernel_rfl) (by kernel_rfl) (fun _ _ _ h => h) (Or.inl ⟨by rfl, ?_⟩) (by assumption) ?_
  rotate_left
  · (intro w hSw; clear hSw; go_simp; (try with_reducible rfl))
  try simp only [Act.put, List.getElem_toArray, List.getElem_cons_zero, List.getElem_cons_succ, List.setIfInBounds_toArray, List.set_cons_zero, List.set_cons_succ]
  refine wpAnyH_take (i := 3) (v := ?_) rfl (by kernel_rfl) (by kernel_rfl) (by kernel_rfl) (fun _ _ _ h => h) (Or.inl ⟨by rfl, ?_⟩) (by assumption) ?_
  rotate_left
  · (intro w hSw; clear hSw; go_simp; (try with_reducible rfl))
  try simp only [Act.put, List.getElem_toArray, List.getElem_cons_zero, List.getElem_cons_succ, List.setIfInBounds_toArray, List.set_cons_zero, List.set_cons_succ]
  refine wpAnyH_take (i := 4) (v := ?_) rfl (by kernel_rfl) (by kernel_rfl) (by kernel_rfl) (fun _ _ _ h => h) (Or.inl ⟨by rfl, ?_⟩) (by assumption) ?_
  rotate_left
  · (intro w hSw; clear hSw; go_simp; (try with_reducible rfl))
  try simp only [Act.put, List.getElem_toArray, List.getElem_cons_zero, List.getElem_cons_succ, List.setIfInBounds_toArray, List.set_cons_zero, List.set_cons_succ]
  refine wpAnyH_take (i := 5) (v := ?_) rfl (by kernel_rfl) (by kernel_rfl) (by kernel_rfl) (fun _ _ _ h => h) (Or.inl ⟨by rfl, ?_⟩) (by assumption) ?_
  rotate_left
  · (intro w hSw; clear hSw; go_simp; (try with_reducible rfl))
  try simp only [Act.put, List.getElem_toArray, List.getElem_cons_zero, List.getElem_cons_succ, List.setIfInBounds_toArray, List.set_cons_zero, List.set_cons_succ]
  refine wpAnyH_take (i := 6) (v := ?_) rfl (by kernel_rfl) (by kernel_rfl) (by kernel_rfl) (fun _ _ _ h => h) (Or.inl ⟨by rfl, ?_⟩) (by assumption) ?_
  rotate_left
  · (intro w hSw; clear hSw; go_simp; (try with_reducible rfl))
  try simp only [Act.put, List.getElem_toArray, List.getElem_cons_zero, List.getElem_cons_succ, List.setIfInBounds_toArray, List.set_cons_zero, List.set_cons_succ]
  refine wpAnyH_ready (rs := [7]) (by kernel_rfl) (by simp) ?_
  refine AllReadyH.cons rfl (fun K hK => ?_) AllReadyH.nil
  rw [if_pos (by rfl)]
  go_simp
  refine (CV.out _ HT0.out HB0.out).mono ?_
  rintro e wz ⟨rfl, hb, ho⟩
  exact ⟨rfl, rfl, ⟨_, _, hb⟩, (It.Only.drew _ w).trans ho⟩
set_option maxHeartbeats 2000000 in
theorem rt_data_no2 (b : Nat) (l : List UInt8) (f : Frm) (p : Nat) (w : World) (ht : Tab w) (h : FBk b l f w) (hl : l.length ≤ 100000) (hp : p < 8192) (h7 : p.testBit 7 = true) (h12 : p.testBit 12 = false) (h8 : p.testBit 8 = false) (h9 : p.testBit 9 = false) (hg : gk l ≤ l.length) (hn : (gR l).length < gN l) : Calls Tryd.prog 56 #[.pointer (some ⟨b, 0, none⟩), .int .u64 (p : Nat)] w fun e w' => e = .panicked GU ∧ (∃ l2 f2, FBk b l2 f2 w') ∧ It.Only (fun k => k = b) w w' := by
  have e7 : (bits .and .u64 ((p : Nat) : Int) 128 != 0) = true := bitF p 7 hp (by decide) _ h7
  have e12 : (bits .and .u64 ((p : Nat) : Int) 4096 != 0) = false := bitF p 12 hp (by decide) _ h12
  have e8 : (bits .and .u64 ((p : Nat) : Int) 256 != 0) = false := bitF p 8 hp (by decide) _ h8
  have e9 : (bits .and .u64 ((p : Nat) : Int) 512 != 0) = false := bitF p 9 hp (by decide) _ h9
  clear h7 h12 h8 h9
  have CV := Lib.hid (fun w (ht : Tab w) (h : FBk b l f w) => varint_ok b l f w ht h (by omega) hg)
  have hr : (gR l).length ≤ 100000 := by rw [(g_ok hg).2.1, List.length_drop]; omega
  have CT := Lib.hid (fun w (h : FBk b (gR l) f w) => take_no b (gR l) f (gN l) w h (by omega) hn)
  have HT0 : Hid (Tab w.drew) := Lib.hid (ht.below (below_drewN (Below.refl w.heap.size w) 1) ht.lt)
  have HB0 : Hid (FBk b l f w.drew) := Lib.hid (h.keep (below_drewN (Below.refl w.heap.size w) 1))
  clear h hg hn ht
  go_enter Tryd.func56, Tryd.ntmps56
  go_wp2_with fail
  refine wp_region_held_drew (S := fun w' => It.Only (fun k => k = b) w w') (by kernel_rfl) ?_ (fun hHeld => ?_)
  · exact It.Only.drew _ w
  refine wpAnyH_take (i := 0) (v := ?_) rfl (by kernel_rfl) (by kernel_rfl) (by kernel_rfl) (fun _ _ _ h => h) (Or.inl ⟨by rfl, ?_⟩) (by assumption) ?_
  rotate_left
  · (intro w hSw; clear hSw; go_simp; (try with_reducible rfl))
  try simp only [Act.put, List.getElem_toArray, List.getElem_cons_zero, List.getElem_cons_succ, List.setIfInBounds_toArray, List.set_cons_zero, List.set_cons_succ]
  refine wpAnyH_take (i := 1) (v := ?_) rfl (by kernel_rfl) (by kernel_rfl) (by kernel_rfl) (fun _ _ _ h => h) (Or.inl ⟨by rfl, ?_⟩) (by assumption) ?_
  rotate_left
  · (intro w hSw; clear hSw; go_simp; (try with_reducible rfl))
  try simp only [Act.put, List.getElem_toArray, List.getElem_cons_zero, List.getElem_cons_succ, List.setIfInBounds_toArray, List.set_cons_zero, List.set_cons_succ]
  refine wpAnyH_take (i := 2) (v := ?_) rfl (by kernel_rfl) (by kernel_rfl) (by kernel_rfl) (fun _ _ _ h => h) (Or.inl ⟨by rfl, ?_⟩) (by assumption) ?_
  rotate_left
  · (intro w hSw; clear hSw; go_simp; (try with_reducible rfl))
  try simp only [Act.put, List.getElem_toArray, List.getElem_cons_zero, List.getElem_cons_succ, List.setIfInBounds_toArray, List.set_cons_zero, List.set_cons_succ]
  refine wpAnyH_take (i := 3) (v := ?_) rfl (by kernel_rfl) (by kernel_rfl) (by kernel_rfl) (fun _ _ _ h => h) (Or.inl ⟨by rfl, ?_⟩) (by assumption) ?_
  rotate_left
  · (intro w hSw; clear hSw; go_simp; (try with_reducible rfl))
  try simp only [Act.put, List.getElem_toArray, List.getElem_cons_zero, List.getElem_cons_succ, List.setIfInBounds_toArray, List.set_cons_zero, List.set_cons_succ]
  refine wpAnyH_take (i := 4) (v := ?_) rfl (by kernel_rfl) (by kernel_rfl) (by kernel_rfl) (fun _ _ _ h => h) (Or.inl ⟨by rfl, ?_⟩) (by assumption) ?_
  rotate_left
  · (intro w hSw; clear hSw; go_simp; (try with_reducible rfl))
  try simp only [Act.put, List.getElem_toArray, List.getElem_cons_zero, List.getElem_cons_succ, List.setIfInBounds_toArray, List.set_cons_zero, List.set_cons_succ]
  refine wpAnyH_take (i := 5) (v := ?_) rfl (by kernel_rfl) (by kernel_rfl) (by kernel_rfl) (fun _ _ _ h => h) (Or.inl ⟨by rfl, ?_⟩) (by assumption) ?_
  rotate_left
  · (intro w hSw; clear hSw; go_simp; (try with_reducible rfl))
  try simp only [Act.put, List.getElem_toArray, List.getElem_cons_zero, List.getElem_cons_succ, List.setIfInBounds_toArray, List.set_cons_zero, List.set_cons_succ]
  refine wpAnyH_take (i := 6) (v := ?_) rfl (by kernel_rfl) (by kernel_rfl) (by kernel_rfl) (fun _ _ _ h => h) (Or.inl ⟨by rfl, ?_⟩) (by assumption) ?_
  rotate_left
  · (intro w hSw; clear hSw; go_simp; (try with_reducible rfl))
  try simp only [Act.put, List.getElem_toArray, List.getElem_cons_zero, List.getElem_cons_succ, List.setIfInBounds_toArray, List.set_cons_zero, List.set_cons_succ]
  refine wpAnyH_ready (rs := [7]) (by kernel_rfl) (by simp) ?_
  refine AllReadyH.cons rfl (fun K hK => ?_) AllReadyH.nil
  rw [if_pos (by rfl)]
  go_simp
  refine (CV.out _ HT0.out HB0.out).mono ?_
  rintro e w1 ⟨rfl, hb, ho⟩
  refine hK.out _ _ ?_ (fun hHeld => ?_)
  · exact (It.Only.drew _ w).trans ho
  clear hK K
  try simp only [Act.put, List.getElem_toArray, List.getElem_cons_zero, List.getElem_cons_succ, List.setIfInBounds_toArray, List.set_cons_zero, List.set_cons_succ]
  refine wpAnyH_ready (rs := [8]) (by kernel_rfl) (by simp) ?_
  refine AllReadyH.cons rfl (fun K hK => ?_) AllReadyH.nil
  rw [if_pos (by rfl)]
  go_simp
  refine (CT.out _ hb).mono ?_
  rintro e wz ⟨rfl, hb2, ho2⟩
  exact ⟨rfl, rfl, ⟨_, _, hb2⟩, ((It.Only.drew _ w).trans ho).trans ho2⟩
set_option maxHeartbeats 2000000 in
theorem rt_rest (b : Nat) (l : List UInt8) (f : Frm) (p : Nat) (w : World) (ht : Tab w) (h : FBk b l f w) (hl : l.length ≤ 100000) (hp : p < 8192) (h7 : p.testBit 7 = false) (h12 : p.testBit 12 = true) (h8 : p.testBit 8 = false) (h9 : p.testBit 9 = false) : Calls Tryd.prog 56 #[.pointer (some ⟨b, 0, none⟩), .int .u64 (p : Nat)] w fun e w' => (∃ v, e = .returned v) ∧ FBk b ([]) { f with data := l } w' ∧ It.Only (fun k => k = b) w w' := by
  have e7 : (bits .and .u64 ((p : Nat) : Int) 128 != 0) = false := bitF p 7 hp (by decide) _ h7
  have e12 : (bits .and .u64 ((p : Nat) : Int) 4096 != 0) = true := bitF p 12 hp (by decide) _ h12
  have e8 : (bits .and .u64 ((p : Nat) : Int) 256 != 0) = false := bitF p 8 hp (by decide) _ h8
  have e9 : (bits .and .u64 ((p : Nat) : Int) 512 != 0) = false := bitF p 9 hp (by decide) _ h9
  clear h7 h12 h8 h9
  have CT : Hid (∀ w, FBk b l f w → Calls Tryd.prog 64 #[.pointer (some ⟨b, 0, none⟩), .int .u64 (l.length : Nat)] w fun e w' => e = .returned (.string ⟨l.toArray⟩) ∧ FBk b [] f w' ∧ It.Only (fun k => k = b) w w') := Lib.hid (fun w h => by
    have := take_ok b l f l.length w h (by omega) (Nat.le_refl _)
    rwa [List.take_length, List.drop_length] at this)
  have hwr : IntKind.u64.wrap ((l.length : Nat) : Int) = ((l.length : Nat) : Int) := by rw [IntKind.wrap_u64]; omega
  have HB0 : Hid (FBk b l f w.drew) := Lib.hid (h.keep (below_drewN (Below.refl w.heap.size w) 1))
  have c0 := HB0.out.cell0
  clear h ht
  go_enter Tryd.func56, Tryd.ntmps56
  go_wp2_with fail
  go_region_with (go_at_call 64; (with_reducible refine (CT.out _ HB0.out).mono ?_); rintro e w2 ⟨rfl, hb, ho⟩; have HB2 := Lib.hid hb; have HO2 := Lib.hid ho; have cA := HB2.out.cell10; have fA := HB2.out.fz 10; clear hb ho)
  all_goals
    go_wp2
    first | go_end0 | refine bodyPost_ret (results_none rfl _ _ _) rfl ?_
    exact ⟨⟨_, rfl⟩, HB2.out.set10 _, ((It.Only.drew _ w).trans HO2.out).trans (It.Only.setCell (O := fun k => k = b) (p := ⟨b, 10, none⟩) rfl _ _)⟩
set_option maxHeartbeats 2000000 in
theorem rt_tok (b : Nat) (l : List UInt8) (f : Frm) (p : Nat) (w : World) (ht : Tab w) (h : FBk b l f w) (hl : l.length ≤ 100000) (hp : p < 8192) (h7 : p.testBit 7 = false) (h12 : p.testBit 12 = false) (h8 : p.testBit 8 = false) (h9 : p.testBit 9 = true) (hk : (f.kind == 24) = false) (hn : 8 ≤ l.length) : Calls Tryd.prog 56 #[.pointer (some ⟨b, 0, none⟩), .int .u64 (p : Nat)] w fun e w' => (∃ v, e = .returned v) ∧ FBk b (l.drop 8) { f with token := l.take 8 } w' ∧ It.Only (fun k => k = b) w w' := by
  have e7 : (bits .and .u64 ((p : Nat) : Int) 128 != 0) = false := bitF p 7 hp (by decide) _ h7
  have e12 : (bits .and .u64 ((p : Nat) : Int) 4096 != 0) = false := bitF p 12 hp (by decide) _ h12
  have e8 : (bits .and .u64 ((p : Nat) : Int) 256 != 0) = false := bitF p 8 hp (by decide) _ h8
  have e9 : (bits .and .u64 ((p : Nat) : Int) 512 != 0) = true := bitF p 9 hp (by decide) _ h9
  clear h7 h12 h8 h9
  have CK := Lib.hid (fun w => tokenLen_path f.kind hk w)
  have CT : Hid (∀ w, FBk b l f w → Calls Tryd.prog 64 #[.pointer (some ⟨b, 0, none⟩), .int .u64 8] w fun e w' => e = .returned (.string ⟨(l.take 8).toArray⟩) ∧ FBk b (l.drop 8) f w' ∧ It.Only (fun k => k = b) w w') := Lib.hid (fun w (h : FBk b l f w) => take_ok b l f 8 w h (by omega) hn)
  have e8 : IntKind.u64.wrap 8 = 8 := by decide
  have HB0 : Hid (FBk b l f w.drew) := Lib.hid (h.keep (below_drewN (Below.refl w.heap.size w) 1))
  have c1 := HB0.out.cell1
  clear h ht hn hk
  go_enter Tryd.func56, Tryd.ntmps56
  go_wp2_with fail
  go_region_with (first | (go_at_call 58; (with_reducible refine (CK.out _).mono ?_); rintro e wt ⟨rfl, rfl⟩) | (go_at_call 64; (with_reducible refine (CT.out _ HB0.out).mono ?_); rintro e w2 ⟨rfl, hb, ho⟩; have HB2 := Lib.hid hb; have HO2 := Lib.hid ho; have cA := HB2.out.cell12; have fA := HB2.out.fz 12; clear hb ho))
  all_goals
    go_wp2
    first | go_end0 | refine bodyPost_ret (results_none rfl _ _ _) rfl ?_
    exact ⟨⟨_, rfl⟩, HB2.out.set12 _, ((It.Only.drew _ w).trans HO2.out).trans (It.Only.setCell (O := fun k => k = b) (p := ⟨b, 12, none⟩) rfl _ _)⟩
set_option maxHeartbeats 2000000 in
theorem rt_tok_no (b : Nat) (l : List UInt8) (f : Frm) (p : Nat) (w : World) (ht : Tab w) (h : FBk b l f w) (hl : l.length ≤ 100000) (hp : p < 8192) (h7 : p.testBit 7 = false) (h12 : p.testBit 12 = false) (h8 : p.testBit 8 = false) (h9 : p.testBit 9 = true) (hk : (f.kind == 24) = false) (hn : l.length < 8) : Calls Tryd.prog 56 #[.pointer (some ⟨b, 0, none⟩), .int .u64 (p : Nat)] w fun e w' => e = .panicked GU ∧ (∃ l2 f2, FBk b l2 f2 w') ∧ It.Only (fun k => k = b) w w' := by
  have e7 : (bits .and .u64 ((p : Nat) : Int) 128 != 0) = false := bitF p 7 hp (by decide) _ h7
  have e12 : (bits .and .u64 ((p : Nat) : Int) 4096 != 0) = false := bitF p 12 hp (by decide) _ h12
  have e8 : (bits .and .u64 ((p : Nat) : Int) 256 != 0) = false := bitF p 8 hp (by decide) _ h8
  have e9 : (bits .and .u64 ((p : Nat) : Int) 512 != 0) = true := bitF p 9 hp (by decide) _ h9
  clear h7 h12 h8 h9
  have CK := Lib.hid (fun w => tokenLen_path f.kind hk w)
  have CT : Hid (∀ w, FBk b l f w → Calls Tryd.prog 64 #[.pointer (some ⟨b, 0, none⟩), .int .u64 8] w fun e w' => e = .panicked GU ∧ FBk b l f w' ∧ It.Only (fun k => k = b) w w') := Lib.hid (fun w (h : FBk b l f w) => take_no b l f 8 w h (by omega) hn)
  have e8 : IntKind.u64.wrap 8 = 8 := by decide
  have HB0 : Hid (FBk b l f w.drew) := Lib.hid (h.keep (below_drewN (Below.refl w.heap.size w) 1))
  have c1 := HB0.out.cell1
  clear h ht hn hk
  go_enter Tryd.func56, Tryd.ntmps56
  go_wp2_with fail
  refine wp_region_held_drew (S := FBk b l f) (by kernel_rfl) ?_ (fun hHeld => ?_)
  · exact HB0.out
  refine wpAnyH_take (i := 0) (v := ?_) rfl (by kernel_rfl) (by kernel_rfl) (by kernel_rfl) (fun _ _ _ h => h) (Or.inl ⟨by rfl, ?_⟩) (by assumption) ?_
  rotate_left
  · (intro w hSw; clear hSw; go_simp; (try with_reducible rfl))
  try simp only [Act.put, List.getElem_toArray, List.getElem_cons_zero, List.getElem_cons_succ, List.setIfInBounds_toArray, List.set_cons_zero, List.set_cons_succ]
  refine wpAnyH_take (i := 1) (v := ?_) rfl (by kernel_rfl) (by kernel_rfl) (by kernel_rfl) (fun _ _ _ h => h) (Or.inl ⟨by rfl, ?_⟩) (by assumption) ?_
  rotate_left
  · (intro w hSw; clear hSw; go_simp; (try with_reducible rfl))
  try simp only [Act.put, List.getElem_toArray, List.getElem_cons_zero, List.getElem_cons_succ, List.setIfInBounds_toArray, List.set_cons_zero, List.set_cons_succ]
  refine wpAnyH_take (i := 2) (v := ?_) rfl (by kernel_rfl) (by kernel_rfl) (by kernel_rfl) (fun _ _ _ h => h) (Or.inl ⟨by rfl, ?_⟩) (by assumption) ?_
  rotate_left
  · (intro w hSw; clear hSw; go_simp; (try with_reducible rfl))
  try simp only [Act.put, List.getElem_toArray, List.getElem_cons_zero, List.getElem_cons_succ, List.setIfInBounds_toArray, List.set_cons_zero, List.set_cons_succ]
  refine wpAnyH_take (i := 3) (v := ?_) rfl (by kernel_rfl) (by kernel_rfl) (by kernel_rfl) (fun _ _ _ h => h) (Or.inl ⟨by rfl, ?_⟩) (by assumption) ?_
  rotate_left
  · (intro w hSw; clear hSw; go_simp; (try with_reducible rfl))
  try simp only [Act.put, List.getElem_toArray, List.getElem_cons_zero, List.getElem_cons_succ, List.setIfInBounds_toArray, List.set_cons_zero, List.set_cons_succ]
  refine wpAnyH_take (i := 4) (v := ?_) rfl (by kernel_rfl) (by kernel_rfl) (by kernel_rfl) (fun _ _ _ h => h) (Or.inl ⟨by rfl, ?_⟩) (by assumption) ?_
  rotate_left
  · (intro w hSw; clear hSw; go_simp; (try with_reducible rfl))
  try simp only [Act.put, List.getElem_toArray, List.getElem_cons_zero, List.getElem_cons_succ, List.setIfInBounds_toArray, List.set_cons_zero, List.set_cons_succ]
  refine wpAnyH_take (i := 5) (v := ?_) rfl (by kernel_rfl) (by kernel_rfl) (by kernel_rfl) (fun _ _ _ h => h) (Or.inl ⟨by rfl, ?_⟩) (by assumption) ?_
  rotate_left
  · (intro w hSw; clear hSw; go_simp; (try with_reducible rfl))
  try simp only [Act.put, List.getElem_toArray, List.getElem_cons_zero, List.getElem_cons_succ, List.setIfInBounds_toArray, List.set_cons_zero, List.set_cons_succ]
  refine wpAnyH_take (i := 6) (v := ?_) rfl (by kernel_rfl) (by kernel_rfl) (by kernel_rfl) (fun _ _ _ h => h) (Or.inl ⟨by rfl, ?_⟩) (by assumption) ?_
  rotate_left
  · (intro w hSw; clear hSw; go_simp; (try with_reducible rfl))
  try simp only [Act.put, List.getElem_toArray, List.getElem_cons_zero, List.getElem_cons_succ, List.setIfInBounds_toArray, List.set_cons_zero, List.set_cons_succ]
  refine wpAnyH_take (i := 7) (v := ?_) rfl (by kernel_rfl) (by kernel_rfl) (by kernel_rfl) (fun _ _ _ h => h) (Or.inl ⟨by rfl, ?_⟩) (by assumption) ?_
  rotate_left
  · (intro w hSw; clear hSw; go_simp; (try with_reducible rfl))
  try simp only [Act.put, List.getElem_toArray, List.getElem_cons_zero, List.getElem_cons_succ, List.setIfInBounds_toArray, List.set_cons_zero, List.set_cons_succ]
  refine wpAnyH_take (i := 8) (v := ?_) rfl (by kernel_rfl) (by kernel_rfl) (by kernel_rfl) (fun _ _ _ h => h) (Or.inl ⟨by rfl, ?_⟩) (by assumption) ?_
  rotate_left
  · (intro w hSw; have z := hSw.cell1; clear hSw; go_simp; (try with_reducible rfl))
  try simp only [Act.put, List.getElem_toArray, List.getElem_cons_zero, List.getElem_cons_succ, List.setIfInBounds_toArray, List.set_cons_zero, List.set_cons_succ]
  refine wpAnyH_ready (rs := [9]) (by kernel_rfl) (by simp) ?_
  refine AllReadyH.cons rfl (fun K hK => ?_) AllReadyH.nil
  rw [if_pos (by rfl)]
  go_simp
  refine (CK.out _).mono ?_
  rintro e wt ⟨rfl, rfl⟩
  refine hK.out _ _ ?_ (fun hHeld => ?_)
  · exact hHeld
  clear hK K
  try simp only [Act.put, List.getElem_toArray, List.getElem_cons_zero, List.getElem_cons_succ, List.setIfInBounds_toArray, List.set_cons_zero, List.set_cons_succ]
  refine wpAnyH_take (i := 10) (v := ?_) rfl (by kernel_rfl) (by kernel_rfl) (by kernel_rfl) (fun _ _ _ h => h) (Or.inl ⟨by rfl, ?_⟩) (by assumption) ?_
  rotate_left
  · (intro w hSw; clear hSw; go_simp; (try with_reducible rfl))
  try simp only [Act.put, List.getElem_toArray, List.getElem_cons_zero, List.getElem_cons_succ, List.setIfInBounds_toArray, List.set_cons_zero, List.set_cons_succ]
  refine wpAnyH_ready (rs := [11]) (by kernel_rfl) (by simp) ?_
  refine AllReadyH.cons rfl (fun K hK => ?_) AllReadyH.nil
  rw [if_pos (by rfl)]
  go_simp
  refine (CT.out _ hHeld).mono ?_
  rintro e wz ⟨rfl, hb2, ho2⟩
  exact ⟨rfl, rfl, ⟨_, _, hb2⟩, (It.Only.drew _ w).trans ho2⟩
end Go.Proofs.YtfeecfdbncjmnaaDoor.Fm
