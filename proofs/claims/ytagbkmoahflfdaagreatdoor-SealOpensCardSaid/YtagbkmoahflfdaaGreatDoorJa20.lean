/- The walks of layer 4: the bits that a mask hides, and the number, are read. -/
import Derived.Test.YtagbkmoahflfdaaGreatDoorJa19
import Derived.Deep.RegionWith
import Derived.Deep.RegionHeld3
namespace Go.Proofs.YtagbkmoahflfdaaGreatDoor.Hd
set_option maxRecDepth 20000
open Go.RowKit Vm
set_option linter.unusedVariables false
set_option linter.unusedSimpArgs false

theorem unusedQ (n : Nat) (w : World) (hn : n < 256) (m : Int) (hm : Hid ((if 128 ≤ n then (12:Int) else 24) = m)) :
    Calls Tryz.prog 156 #[.int .u8 n] w fun e w' => e = .returned (.int .u8 m) ∧ w' = w := by
  have h := unused_any n w hn
  rw [hm.out] at h
  exact h
theorem wideQ (n k : Nat) (w : World) (hn : n < 256) (hk : Hid (1 + n % 4 = k)) :
    Calls Tryz.prog 129 #[.int .u8 n] w fun e w' => e = .returned (.int .i64 k) ∧ w' = w := by
  have h := wideOf_any n w hn
  rw [hk.out] at h
  exact h
theorem numberEk (b : Nat) (st st' : St) (k v : Nat) (x2 x3 x4 x5 x6 x7 x8 x9 xa xb xc xd : Value) (w : World) (e : Hid (bk (st.take k) = v ∧ st.skip k = st')) (h : Hid (Blk b st x2 x3 x4 x5 x6 x7 x8 x9 xa xb xc xd w)) (hl : st.s.length ≤ 9223372036854775807) (hk : k ≤ 4) :
    Calls Tryz.prog 152 #[.pointer (some ⟨b, 0, none⟩), .int .i64 k] w fun e w' => e = .returned (.int .u64 (v : Nat)) ∧ Blk b st' x2 x3 x4 x5 x6 x7 x8 x9 xa xb xc xd w' ∧ Below b w w' := by
  obtain ⟨rfl, rfl⟩ := e.out
  exact number_any b st x2 x3 x4 x5 x6 x7 x8 x9 xa xb xc xd k w h.out hl (by omega)
set_option maxHeartbeats 4000000 in
theorem readNumber_f (b n k v : Nat) (l : List UInt8) (s' : St) (x2 x3 x5 x6 x7 x8 x9 xa : Value) (bad ph : Bool) (m : Int) (w : World) (h : Blk b ⟨l, false⟩ x2 x3 (.bool false) x5 x6 x7 x8 x9 xa (.int .i64 0) (.int .u64 0) (.int .u8 n) w)
    (E : Hid (bk (St.take ⟨l, bad⟩ k) = v ∧ St.skip ⟨l, bad⟩ k = s')) (EK : Hid (1 + n % 4 = k)) (EM : Hid ((if 128 ≤ n then (12:Int) else 24) = m)) (EB : (bits .and .u8 (n : Int) m != 0) = bad) (EP : (bits .and .u8 (n : Int) 4 != 0) = ph) (hl : l.length ≤ 9223372036854775807) (hn : n < 256) (hk : k ≤ 4) :
    Calls Tryz.prog 131 #[.pointer (some ⟨b, 0, none⟩)] w fun e w' => e = .returned (.tuple #[]) ∧ Blk b s' x2 x3 (.bool ph) x5 x6 x7 x8 x9 xa (.int .i64 k) (.int .u64 v) (.int .u8 n) w' ∧ Below b w w' := by
  have c1 : w.cell? ⟨b, 1, none⟩ = some (.bool false) := h.cell 1
  have f1 := h.fz 1
  have cd : w.cell? ⟨b, 13, none⟩ = some (.int .u8 n) := h.cell 13
  have c4 : w.cell? ⟨b, 4, none⟩ = some (.bool false) := h.cell 4
  have f4 := h.fz 4
  have cb : w.cell? ⟨b, 11, none⟩ = some (.int .i64 0) := h.cell 11
  have fb := h.fz 11
  have H := Lib.hid h
  clear h
  go_enter Tryz.func131, Tryz.ntmps131
  go_wp2_with fail
  go_region_with (go_at_call 156; (with_reducible refine (unusedQ n _ hn m EM).mono ?_); rintro e w1 ⟨rfl, rfl⟩)
  all_goals
    go_wp2_with fail
    refine (wideQ n k _ hn EK).mono ?_
    rintro e w2 ⟨rfl, rfl⟩
    have HB := Lib.hid (below_drew (below_drew ((((Below.refl b w).setCell (p := ⟨b, 1, none⟩) (Nat.le_refl _) (.bool bad)).setCell (p := ⟨b, 4, none⟩) (Nat.le_refl _) (.bool ph)).setCell (p := ⟨b, 11, none⟩) (Nat.le_refl _) (.int .i64 k))))
    have HD := Lib.hid (((H.out.set1 bad).set4 (.bool ph)).set11 (.int .i64 k)).drew.drew
    clear H
    go_wp2_with fail
    go_region_with (go_at_call 152; (with_reducible refine (numberEk b ⟨l, bad⟩ s' k v _ _ _ _ _ _ _ _ _ _ _ _ _ E HD hl hk).mono ?_); rintro e w3 ⟨rfl, h3, hb3⟩; have cc := h3.cell 12; have fc := h3.fz 12; simp only [List.getElem?_toArray, List.getElem?_cons_succ, List.getElem?_cons_zero] at cc; replace HB := Lib.hid ((HB.out.trans hb3).setCell (p := ⟨b, 12, none⟩) (Nat.le_refl _) (.int .u64 v)); have H4 := Lib.hid (h3.set12 (.int .u64 v)); clear h3 hb3)
    all_goals
      go_wp2
      go_end0
      exact ⟨rfl, H4.out, HB.out⟩
set_option maxHeartbeats 4000000 in
set_option maxHeartbeats 4000000 in
theorem readNumber_t (b n k v : Nat) (l : List UInt8) (s' : St) (x2 x3 x5 x6 x7 x8 x9 xa : Value) (ph : Bool) (w : World) (h : Blk b ⟨l, true⟩ x2 x3 (.bool false) x5 x6 x7 x8 x9 xa (.int .i64 0) (.int .u64 0) (.int .u8 n) w)
    (E : Hid (bk (St.take ⟨l, true⟩ k) = v ∧ St.skip ⟨l, true⟩ k = s')) (EK : Hid (1 + n % 4 = k)) (EP : (bits .and .u8 (n : Int) 4 != 0) = ph) (hl : l.length ≤ 9223372036854775807) (hn : n < 256) (hk : k ≤ 4) :
    Calls Tryz.prog 131 #[.pointer (some ⟨b, 0, none⟩)] w fun e w' => e = .returned (.tuple #[]) ∧ Blk b s' x2 x3 (.bool ph) x5 x6 x7 x8 x9 xa (.int .i64 k) (.int .u64 v) (.int .u8 n) w' ∧ Below b w w' := by
  have d4 : w.cell? ⟨b, 4, none⟩ = some (.bool false) := h.cell 4
  have e4 := h.fz 4
  have db : w.cell? ⟨b, 11, none⟩ = some (.int .i64 0) := h.cell 11
  have eb := h.fz 11
  have dd : w.cell? ⟨b, 13, none⟩ = some (.int .u8 n) := h.cell 13
  go_enter Tryz.func131, Tryz.ntmps131
  have H := Lib.hid h
  clear h
  go_wp2_with fail
  refine wp_region_noPanic ?_
  refine wp_region_held_drew (S := fun w' => Blk b ⟨l, true⟩ x2 x3 (.bool false) x5 x6 x7 x8 x9 xa (.int .i64 0) (.int .u64 0) (.int .u8 n) w' ∧ Below b w w') (by kernel_rfl) ?_ (fun hHeld => ?_)
  · exact ⟨H.out.drew, below_drew (Below.refl _ _)⟩
  refine wpAnyH_take (i := 0) (v := ?_) rfl (by kernel_rfl) (by kernel_rfl) (by kernel_rfl) (fun _ _ _ h => h) (Or.inl ⟨by rfl, ?_⟩) (by assumption) ?_
  rotate_left
  · (intro w hSw; (try (have c1 : w.cell? ⟨b, 1, none⟩ = some (.bool true) := hSw.1.cell 1)); clear hSw; go_simp; (try with_reducible rfl))
  try simp only [Act.put, List.getElem_toArray, List.getElem_cons_zero, List.getElem_cons_succ, List.setIfInBounds_toArray, List.set_cons_zero, List.set_cons_succ]
  refine wpAnyH_take (i := 1) (v := ?_) rfl (by kernel_rfl) (by kernel_rfl) (by kernel_rfl) (fun _ _ _ h => h) (Or.inl ⟨by rfl, ?_⟩) (by assumption) ?_
  rotate_left
  · (intro w hSw; (try (have c1 : w.cell? ⟨b, 1, none⟩ = some (.bool true) := hSw.1.cell 1)); clear hSw; go_simp; (try with_reducible rfl))
  try simp only [Act.put, List.getElem_toArray, List.getElem_cons_zero, List.getElem_cons_succ, List.setIfInBounds_toArray, List.set_cons_zero, List.set_cons_succ]
  refine wpAnyH_take (i := 2) (v := ?_) rfl (by kernel_rfl) (by kernel_rfl) (by kernel_rfl) (fun _ _ _ h => h) (Or.inl ⟨by rfl, ?_⟩) (by assumption) ?_
  rotate_left
  · (intro w hSw; (try (have c1 : w.cell? ⟨b, 1, none⟩ = some (.bool true) := hSw.1.cell 1)); clear hSw; go_simp; (try with_reducible rfl))
  try simp only [Act.put, List.getElem_toArray, List.getElem_cons_zero, List.getElem_cons_succ, List.setIfInBounds_toArray, List.set_cons_zero, List.set_cons_succ]
  refine wpAnyH_take (i := 3) (v := ?_) rfl (by kernel_rfl) (by kernel_rfl) (by kernel_rfl) (fun _ _ _ h => h) (Or.inl ⟨by rfl, ?_⟩) (by assumption) ?_
  rotate_left
  · (intro w hSw; (try (have c1 : w.cell? ⟨b, 1, none⟩ = some (.bool true) := hSw.1.cell 1)); clear hSw; go_simp; (try with_reducible rfl))
  try simp only [Act.put, List.getElem_toArray, List.getElem_cons_zero, List.getElem_cons_succ, List.setIfInBounds_toArray, List.set_cons_zero, List.set_cons_succ]
  refine wpAnyH_take (i := 4) (v := ?_) rfl (by kernel_rfl) (by kernel_rfl) (by kernel_rfl) (fun _ _ _ h => h) (Or.inl ⟨by rfl, ?_⟩) (by assumption) ?_
  rotate_left
  · (intro w hSw; (try (have c1 : w.cell? ⟨b, 1, none⟩ = some (.bool true) := hSw.1.cell 1)); clear hSw; go_simp; (try with_reducible rfl))
  try simp only [Act.put, List.getElem_toArray, List.getElem_cons_zero, List.getElem_cons_succ, List.setIfInBounds_toArray, List.set_cons_zero, List.set_cons_succ]
  refine wpAnyH_take (i := 5) (v := ?_) rfl (by kernel_rfl) (by kernel_rfl) (by kernel_rfl) (fun _ _ _ h => h) (Or.inl ⟨by rfl, ?_⟩) (by assumption) ?_
  rotate_left
  · (intro w hSw; (try (have c1 : w.cell? ⟨b, 1, none⟩ = some (.bool true) := hSw.1.cell 1)); clear hSw; go_simp; (try with_reducible rfl))
  try simp only [Act.put, List.getElem_toArray, List.getElem_cons_zero, List.getElem_cons_succ, List.setIfInBounds_toArray, List.set_cons_zero, List.set_cons_succ]
  refine wpAnyH_take (i := 6) (v := ?_) rfl (by kernel_rfl) (by kernel_rfl) (by kernel_rfl) (fun _ _ _ h => h) (Or.inl ⟨by rfl, ?_⟩) (by assumption) ?_
  rotate_left
  · (intro w hSw; (try (have c1 : w.cell? ⟨b, 1, none⟩ = some (.bool true) := hSw.1.cell 1)); clear hSw; go_simp; (try with_reducible rfl))
  try simp only [Act.put, List.getElem_toArray, List.getElem_cons_zero, List.getElem_cons_succ, List.setIfInBounds_toArray, List.set_cons_zero, List.set_cons_succ]
  refine wpAnyH_take (i := 7) (v := undef) rfl (by kernel_rfl) (by kernel_rfl) (by kernel_rfl) (fun _ _ _ h => h) (Or.inr ⟨by rfl, rfl⟩) (by assumption) ?_
  try simp only [Act.put, List.getElem_toArray, List.getElem_cons_zero, List.getElem_cons_succ, List.setIfInBounds_toArray, List.set_cons_zero, List.set_cons_succ]
  refine wpAnyH_take (i := 8) (v := undef) rfl (by kernel_rfl) (by kernel_rfl) (by kernel_rfl) (fun _ _ _ h => h) (Or.inr ⟨by rfl, rfl⟩) (by assumption) ?_
  try simp only [Act.put, List.getElem_toArray, List.getElem_cons_zero, List.getElem_cons_succ, List.setIfInBounds_toArray, List.set_cons_zero, List.set_cons_succ]
  refine wpAnyH_take (i := 9) (v := undef) rfl (by kernel_rfl) (by kernel_rfl) (by kernel_rfl) (fun _ _ _ h => h) (Or.inr ⟨by rfl, rfl⟩) (by assumption) ?_
  try simp only [Act.put, List.getElem_toArray, List.getElem_cons_zero, List.getElem_cons_succ, List.setIfInBounds_toArray, List.set_cons_zero, List.set_cons_succ]
  refine wpAnyH_take (i := 10) (v := undef) rfl (by kernel_rfl) (by kernel_rfl) (by kernel_rfl) (fun _ _ _ h => h) (Or.inr ⟨by rfl, rfl⟩) (by assumption) ?_
  try simp only [Act.put, List.getElem_toArray, List.getElem_cons_zero, List.getElem_cons_succ, List.setIfInBounds_toArray, List.set_cons_zero, List.set_cons_succ]
  refine wpAnyH_take (i := 11) (v := undef) rfl (by kernel_rfl) (by kernel_rfl) (by kernel_rfl) (fun _ _ _ h => h) (Or.inr ⟨by rfl, rfl⟩) (by assumption) ?_
  try simp only [Act.put, List.getElem_toArray, List.getElem_cons_zero, List.getElem_cons_succ, List.setIfInBounds_toArray, List.set_cons_zero, List.set_cons_succ]
  refine wpAnyH_take (i := 12) (v := undef) rfl (by kernel_rfl) (by kernel_rfl) (by kernel_rfl) (fun _ _ _ h => h) (Or.inr ⟨by rfl, rfl⟩) (by assumption) ?_
  try simp only [Act.put, List.getElem_toArray, List.getElem_cons_zero, List.getElem_cons_succ, List.setIfInBounds_toArray, List.set_cons_zero, List.set_cons_succ]
  refine wpAnyH_take (i := 13) (v := undef) rfl (by kernel_rfl) (by kernel_rfl) (by kernel_rfl) (fun _ _ _ h => h) (Or.inr ⟨by rfl, rfl⟩) (by assumption) ?_
  try simp only [Act.put, List.getElem_toArray, List.getElem_cons_zero, List.getElem_cons_succ, List.setIfInBounds_toArray, List.set_cons_zero, List.set_cons_succ]
  refine wpAnyH_take (i := 14) (v := undef) rfl (by kernel_rfl) (by kernel_rfl) (by kernel_rfl) (fun _ _ _ h => h) (Or.inr ⟨by rfl, rfl⟩) (by assumption) ?_
  try simp only [Act.put, List.getElem_toArray, List.getElem_cons_zero, List.getElem_cons_succ, List.setIfInBounds_toArray, List.set_cons_zero, List.set_cons_succ]
  refine wpAnyH_take (i := 15) (v := undef) rfl (by kernel_rfl) (by kernel_rfl) (by kernel_rfl) (fun _ _ _ h => h) (Or.inr ⟨by rfl, rfl⟩) (by assumption) ?_
  try simp only [Act.put, List.getElem_toArray, List.getElem_cons_zero, List.getElem_cons_succ, List.setIfInBounds_toArray, List.set_cons_zero, List.set_cons_succ]
  refine wpAnyH_take (i := 16) (v := undef) rfl (by kernel_rfl) (by kernel_rfl) (by kernel_rfl) (fun _ _ _ h => h) (Or.inr ⟨by rfl, rfl⟩) (by assumption) ?_
  try simp only [Act.put, List.getElem_toArray, List.getElem_cons_zero, List.getElem_cons_succ, List.setIfInBounds_toArray, List.set_cons_zero, List.set_cons_succ]
  refine wpAnyH_take (i := 17) (v := undef) rfl (by kernel_rfl) (by kernel_rfl) (by kernel_rfl) (fun _ _ _ h => h) (Or.inr ⟨by rfl, rfl⟩) (by assumption) ?_
  try simp only [Act.put, List.getElem_toArray, List.getElem_cons_zero, List.getElem_cons_succ, List.setIfInBounds_toArray, List.set_cons_zero, List.set_cons_succ]
  refine wpAnyH_take (i := 18) (v := ?_) rfl (by kernel_rfl) (by kernel_rfl) (by kernel_rfl) (fun _ _ _ h => h) (Or.inl ⟨by rfl, ?_⟩) (by assumption) ?_
  rotate_left
  · (intro w hSw; (try (have c1 : w.cell? ⟨b, 1, none⟩ = some (.bool true) := hSw.1.cell 1)); clear hSw; go_simp; (try with_reducible rfl))
  try simp only [Act.put, List.getElem_toArray, List.getElem_cons_zero, List.getElem_cons_succ, List.setIfInBounds_toArray, List.set_cons_zero, List.set_cons_succ]
  refine wpAnyH_take (i := 19) (v := ?_) rfl (by kernel_rfl) (by kernel_rfl) (by kernel_rfl) (fun _ _ _ h => h) (Or.inl ⟨by rfl, ?_⟩) (by assumption) ?_
  rotate_left
  · (intro w hSw; (try (have c1 : w.cell? ⟨b, 1, none⟩ = some (.bool true) := hSw.1.cell 1)); clear hSw; go_simp; (try with_reducible rfl))
  try simp only [Act.put, List.getElem_toArray, List.getElem_cons_zero, List.getElem_cons_succ, List.setIfInBounds_toArray, List.set_cons_zero, List.set_cons_succ]
  refine wpAnyH_take (i := 20) (v := ?_) rfl (by kernel_rfl) (by kernel_rfl) (by kernel_rfl) (fun _ _ _ h => h) (Or.inl ⟨by rfl, ?_⟩) (by assumption) ?_
  rotate_left
  · (intro w hSw; (try (have c1 : w.cell? ⟨b, 1, none⟩ = some (.bool true) := hSw.1.cell 1)); clear hSw; go_simp; (try with_reducible rfl))
  try simp only [Act.put, List.getElem_toArray, List.getElem_cons_zero, List.getElem_cons_succ, List.setIfInBounds_toArray, List.set_cons_zero, List.set_cons_succ]
  refine wpAnyH_take (i := 21) (v := ?_) rfl (by kernel_rfl) (by kernel_rfl) (by kernel_rfl) (fun _ _ _ h => h) (Or.inl ⟨by rfl, ?_⟩) (by assumption) ?_
  rotate_left
  · (intro w hSw; (try (have c1 : w.cell? ⟨b, 1, none⟩ = some (.bool true) := hSw.1.cell 1)); clear hSw; go_simp; (try with_reducible rfl))
  try simp only [Act.put, List.getElem_toArray, List.getElem_cons_zero, List.getElem_cons_succ, List.setIfInBounds_toArray, List.set_cons_zero, List.set_cons_succ]
  refine wpAnyH_ready (rs := [22]) (by kernel_rfl) (by simp) ?_
  refine AllReadyH.cons rfl (fun K hK => ?_) AllReadyH.nil
  rw [if_pos (by rfl)]
  have HH := Lib.hid hHeld
  have c1 := hHeld.1.cell 1
  have f1 := hHeld.1.fz 1
  simp only [List.getElem?_toArray, List.getElem?_cons_succ, List.getElem?_cons_zero] at c1
  clear hHeld
  go_simp
  refine hK.out _ _ ?_ (fun hHeld => ?_)
  · exact ⟨HH.out.1.set1 true, HH.out.2.setCell (p := ⟨b, 1, none⟩) (Nat.le_refl _) (.bool true)⟩
  clear hK K c1 f1 HH
  try simp only [Act.put, List.getElem_toArray, List.getElem_cons_zero, List.getElem_cons_succ, List.setIfInBounds_toArray, List.set_cons_zero, List.set_cons_succ]
  refine wpAnyH_done (by kernel_rfl) (NoPanic.normal ?_) _
  clear hHeld
  go_wp2_with fail
  refine (wideQ n k _ hn EK).mono ?_
  rintro e w2 ⟨rfl, rfl⟩
  have HB := Lib.hid (below_drew (below_drew ((((Below.refl b w).setCell (p := ⟨b, 1, none⟩) (Nat.le_refl _) (.bool true)).setCell (p := ⟨b, 4, none⟩) (Nat.le_refl _) (.bool ph)).setCell (p := ⟨b, 11, none⟩) (Nat.le_refl _) (.int .i64 k))))
  have HD := Lib.hid (((H.out.set1 true).set4 (.bool ph)).set11 (.int .i64 k)).drew.drew
  clear H
  go_wp2_with fail
  go_region_with (go_at_call 152; (with_reducible refine (numberEk b ⟨l, true⟩ s' k v _ _ _ _ _ _ _ _ _ _ _ _ _ E HD hl hk).mono ?_); rintro e w3 ⟨rfl, h3, hb3⟩; have cc := h3.cell 12; have fc := h3.fz 12; simp only [List.getElem?_toArray, List.getElem?_cons_succ, List.getElem?_cons_zero] at cc; replace HB := Lib.hid ((HB.out.trans hb3).setCell (p := ⟨b, 12, none⟩) (Nat.le_refl _) (.int .u64 v)); have H4 := Lib.hid (h3.set12 (.int .u64 v)); clear h3 hb3)
  all_goals
    go_wp2
    go_end0
    exact ⟨rfl, H4.out, HB.out⟩
end Go.Proofs.YtagbkmoahflfdaaGreatDoor.Hd
