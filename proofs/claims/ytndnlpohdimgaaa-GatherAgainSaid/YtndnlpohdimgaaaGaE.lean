/- Layer 14: the walks of what is refused; a cursor. By tools/gen-gather-4.py. -/
import Derived.Test.YtndnlpohdimgaaaGaD
namespace Go.Proofs.Ytndnlpohdimgaaa.Rg
set_option maxRecDepth 20000
open Go.RowKit Go.Shelf
set_option linter.unusedVariables false
set_option linter.unusedSimpArgs false

set_option maxHeartbeats 4000000 in
theorem refuses_no (T : ByteArray) (s : GS) (a : Option Addr) (n c : Nat) (off : Int) (d : ByteArray) (f : Bool) (E : Int) (w : World) (hok : GsOk T s) (hT : T.size ≤ 900) (hr : RowG w (.slice a n c) T s.l)
    (h0 : 0 ≤ off) (h1 : off ≤ 900) (h2 : d.size ≤ 900) (hE : off + (d.size : Int) = E) (hEk : E ≤ (T.size : Int)) (hEf : f = true → hiS s ≤ E) :
    Calls Try.prog 14 #[.agg #[.int .u64 s.rd, .slice a n c, .int .u64 s.fin, .bool s.kn], .agg #[.int .u64 off, .string d], .bool f] w fun e w' => e = .returned (.int .i64 0) ∧ Below w.heap.size w w' := by
  obtain ⟨rd, l, fin, kn⟩ := s
  have CE := Lib.hid (fun W => end_any off d W h0 (by omega) (by omega))
  have HS0 := Lib.hid (sp_made w ⟨rd, l, fin, kn⟩ (.slice a n c) T off d hr)
  have gE0 : E ≤ 4611686018427387903 := by omega
  have gO0 : off ≤ 4611686018427387903 := by omega
  rw [hE] at CE
  have CHH := Lib.hid (fun W h => highest_any T ⟨rd, l, fin, kn⟩ (.slice a n c) W hok hT h)
  have hkn := hok.kn
  obtain ⟨HH, hHH⟩ : ∃ x, hiS ⟨rd, l, fin, kn⟩ = x := ⟨_, rfl⟩
  rw [hHH] at CHH hEf
  simp only at hkn CHH ⊢
  clear hr hok h0 h1 h2 hE hT hHH
  cases kn with
  | true =>
    have d1 : decide (fin < E) = false := decide_eq_false (by have := hkn rfl; omega)
    clear hkn hEk
    cases f with
    | true =>
      have d2 : decide (E < HH) = false := decide_eq_false (by have := hEf rfl; omega)
      clear hEf
      go_enter Try.func14, Try.ntmps14
      go_wp2_with fail
      refine (CE.out _).mono ?_
      rintro e w1 ⟨rfl, hb⟩
      have HS1 := Lib.hid ((HS0.out.go hb).go (Below.refl _ _).drew)
      clear hb
      go_wp2_with fail
      refine wp_region_noPanic ?_
      refine wp_region_held_drew (S := fun W : World => SP w w.heap.size (w.heap.size + 1) ⟨rd, l, fin, true⟩ (.slice a n c) T off d W) (by kernel_rfl) ?_ (fun hHeld => ?_)
      · exact HS1.out
      refine wpAnyH_take (i := 0) (v := ?_) rfl (by kernel_rfl) (by kernel_rfl) (by kernel_rfl) (fun _ _ _ h => h) (Or.inl ⟨by rfl, ?_⟩) (by assumption) ?_
      rotate_left
      · (intro w hSw; (have c0 := hSw.hs.c0; have c1 := hSw.hs.c1; have c2 := hSw.hs.c2; have c3 := hSw.hs.c3; have e0 := hSw.hp.c0; have e1 := hSw.hp.c1; simp only at c0 c2 c3); go_simp; (try with_reducible rfl))
      try simp only [Act.put, List.getElem_toArray, List.getElem_cons_zero, List.getElem_cons_succ, List.setIfInBounds_toArray, List.set_cons_zero, List.set_cons_succ]
      refine wpAnyH_take (i := 1) (v := ?_) rfl (by kernel_rfl) (by kernel_rfl) (by kernel_rfl) (fun _ _ _ h => h) (Or.inl ⟨by rfl, ?_⟩) (by assumption) ?_
      rotate_left
      · (intro w hSw; (have c0 := hSw.hs.c0; have c1 := hSw.hs.c1; have c2 := hSw.hs.c2; have c3 := hSw.hs.c3; have e0 := hSw.hp.c0; have e1 := hSw.hp.c1; simp only at c0 c2 c3); go_simp; (try with_reducible rfl))
      try simp only [Act.put, List.getElem_toArray, List.getElem_cons_zero, List.getElem_cons_succ, List.setIfInBounds_toArray, List.set_cons_zero, List.set_cons_succ]
      refine wpAnyH_take (i := 2) (v := ?_) rfl (by kernel_rfl) (by kernel_rfl) (by kernel_rfl) (fun _ _ _ h => h) (Or.inl ⟨by rfl, ?_⟩) (by assumption) ?_
      rotate_left
      · (intro w hSw; (have c0 := hSw.hs.c0; have c1 := hSw.hs.c1; have c2 := hSw.hs.c2; have c3 := hSw.hs.c3; have e0 := hSw.hp.c0; have e1 := hSw.hp.c1; simp only at c0 c2 c3); go_simp; (try with_reducible rfl))
      try simp only [Act.put, List.getElem_toArray, List.getElem_cons_zero, List.getElem_cons_succ, List.setIfInBounds_toArray, List.set_cons_zero, List.set_cons_succ]
      refine wpAnyH_take (i := 3) (v := ?_) rfl (by kernel_rfl) (by kernel_rfl) (by kernel_rfl) (fun _ _ _ h => h) (Or.inl ⟨by rfl, ?_⟩) (by assumption) ?_
      rotate_left
      · (intro w hSw; (have c0 := hSw.hs.c0; have c1 := hSw.hs.c1; have c2 := hSw.hs.c2; have c3 := hSw.hs.c3; have e0 := hSw.hp.c0; have e1 := hSw.hp.c1; simp only at c0 c2 c3); go_simp; (try with_reducible rfl))
      try simp only [Act.put, List.getElem_toArray, List.getElem_cons_zero, List.getElem_cons_succ, List.setIfInBounds_toArray, List.set_cons_zero, List.set_cons_succ]
      refine wpAnyH_take (i := 5) (v := ?_) rfl (by kernel_rfl) (by kernel_rfl) (by kernel_rfl) (fun _ _ _ h => h) (Or.inl ⟨by rfl, ?_⟩) (by assumption) ?_
      rotate_left
      · (intro w hSw; (have c0 := hSw.hs.c0; have c1 := hSw.hs.c1; have c2 := hSw.hs.c2; have c3 := hSw.hs.c3; have e0 := hSw.hp.c0; have e1 := hSw.hp.c1; simp only at c0 c2 c3); go_simp; (try with_reducible rfl))
      try simp only [Act.put, List.getElem_toArray, List.getElem_cons_zero, List.getElem_cons_succ, List.setIfInBounds_toArray, List.set_cons_zero, List.set_cons_succ]
      refine wpAnyH_take (i := 6) (v := ?_) rfl (by kernel_rfl) (by kernel_rfl) (by kernel_rfl) (fun _ _ _ h => h) (Or.inl ⟨by rfl, ?_⟩) (by assumption) ?_
      rotate_left
      · (intro w hSw; (have c0 := hSw.hs.c0; have c1 := hSw.hs.c1; have c2 := hSw.hs.c2; have c3 := hSw.hs.c3; have e0 := hSw.hp.c0; have e1 := hSw.hp.c1; simp only at c0 c2 c3); go_simp; (try with_reducible rfl))
      try simp only [Act.put, List.getElem_toArray, List.getElem_cons_zero, List.getElem_cons_succ, List.setIfInBounds_toArray, List.set_cons_zero, List.set_cons_succ]
      refine wpAnyH_ready (rs := [4]) (by kernel_rfl) (by simp) ?_
      refine AllReadyH.cons rfl (fun K hK => ?_) AllReadyH.nil
      rw [if_pos (by rfl)]
      go_simp
      refine (CE.out _).mono ?_
      rintro e wx1 ⟨rfl, hb⟩
      have HX1 := Lib.hid (HS1.out.go hb)
      clear hb
      refine hK.out _ _ ?_ (fun hHeld => ?_)
      · exact HX1.out
      clear hK K
      try simp only [Act.put, List.getElem_toArray, List.getElem_cons_zero, List.getElem_cons_succ, List.setIfInBounds_toArray, List.set_cons_zero, List.set_cons_succ]
      refine wpAnyH_take (i := 7) (v := ?_) rfl (by kernel_rfl) (by kernel_rfl) (by kernel_rfl) (fun _ _ _ h => h) (Or.inl ⟨by rfl, ?_⟩) (by assumption) ?_
      rotate_left
      · (intro w hSw; (have c0 := hSw.hs.c0; have c1 := hSw.hs.c1; have c2 := hSw.hs.c2; have c3 := hSw.hs.c3; have e0 := hSw.hp.c0; have e1 := hSw.hp.c1; simp only at c0 c2 c3); go_simp; (try with_reducible rfl))
      try simp only [Act.put, List.getElem_toArray, List.getElem_cons_zero, List.getElem_cons_succ, List.setIfInBounds_toArray, List.set_cons_zero, List.set_cons_succ]
      refine wpAnyH_take (i := 8) (v := ?_) rfl (by kernel_rfl) (by kernel_rfl) (by kernel_rfl) (fun _ _ _ h => h) (Or.inl ⟨by rfl, ?_⟩) (by assumption) ?_
      rotate_left
      · (intro w hSw; (have c0 := hSw.hs.c0; have c1 := hSw.hs.c1; have c2 := hSw.hs.c2; have c3 := hSw.hs.c3; have e0 := hSw.hp.c0; have e1 := hSw.hp.c1; simp only at c0 c2 c3); go_simp; (try with_reducible rfl))
      try simp only [Act.put, List.getElem_toArray, List.getElem_cons_zero, List.getElem_cons_succ, List.setIfInBounds_toArray, List.set_cons_zero, List.set_cons_succ]
      refine wpAnyH_take (i := 9) (v := ?_) rfl (by kernel_rfl) (by kernel_rfl) (by kernel_rfl) (fun _ _ _ h => h) (Or.inl ⟨by rfl, ?_⟩) (by assumption) ?_
      rotate_left
      · (intro w hSw; (have c0 := hSw.hs.c0; have c1 := hSw.hs.c1; have c2 := hSw.hs.c2; have c3 := hSw.hs.c3; have e0 := hSw.hp.c0; have e1 := hSw.hp.c1; simp only at c0 c2 c3); go_simp; (try with_reducible rfl))
      try simp only [Act.put, List.getElem_toArray, List.getElem_cons_zero, List.getElem_cons_succ, List.setIfInBounds_toArray, List.set_cons_zero, List.set_cons_succ]
      refine wpAnyH_take (i := 10) (v := ?_) rfl (by kernel_rfl) (by kernel_rfl) (by kernel_rfl) (fun _ _ _ h => h) (Or.inl ⟨by rfl, ?_⟩) (by assumption) ?_
      rotate_left
      · (intro w hSw; (have c0 := hSw.hs.c0; have c1 := hSw.hs.c1; have c2 := hSw.hs.c2; have c3 := hSw.hs.c3; have e0 := hSw.hp.c0; have e1 := hSw.hp.c1; simp only at c0 c2 c3); go_simp; (try with_reducible rfl))
      try simp only [Act.put, List.getElem_toArray, List.getElem_cons_zero, List.getElem_cons_succ, List.setIfInBounds_toArray, List.set_cons_zero, List.set_cons_succ]
      refine wpAnyH_take (i := 11) (v := ?_) rfl (by kernel_rfl) (by kernel_rfl) (by kernel_rfl) (fun _ _ _ h => h) (Or.inl ⟨by rfl, ?_⟩) (by assumption) ?_
      rotate_left
      · (intro w hSw; (have c0 := hSw.hs.c0; have c1 := hSw.hs.c1; have c2 := hSw.hs.c2; have c3 := hSw.hs.c3; have e0 := hSw.hp.c0; have e1 := hSw.hp.c1; simp only at c0 c2 c3); go_simp; (try with_reducible rfl))
      try simp only [Act.put, List.getElem_toArray, List.getElem_cons_zero, List.getElem_cons_succ, List.setIfInBounds_toArray, List.set_cons_zero, List.set_cons_succ]
      refine wpAnyH_take (i := 12) (v := ?_) rfl (by kernel_rfl) (by kernel_rfl) (by kernel_rfl) (fun _ _ _ h => h) (Or.inl ⟨by rfl, ?_⟩) (by assumption) ?_
      rotate_left
      · (intro w hSw; (have c0 := hSw.hs.c0; have c1 := hSw.hs.c1; have c2 := hSw.hs.c2; have c3 := hSw.hs.c3; have e0 := hSw.hp.c0; have e1 := hSw.hp.c1; simp only at c0 c2 c3); go_simp; (try with_reducible rfl))
      try simp only [Act.put, List.getElem_toArray, List.getElem_cons_zero, List.getElem_cons_succ, List.setIfInBounds_toArray, List.set_cons_zero, List.set_cons_succ]
      refine wpAnyH_take (i := 14) (v := ?_) rfl (by kernel_rfl) (by kernel_rfl) (by kernel_rfl) (fun _ _ _ h => h) (Or.inl ⟨by rfl, ?_⟩) (by assumption) ?_
      rotate_left
      · (intro w hSw; (have c0 := hSw.hs.c0; have c1 := hSw.hs.c1; have c2 := hSw.hs.c2; have c3 := hSw.hs.c3; have e0 := hSw.hp.c0; have e1 := hSw.hp.c1; simp only at c0 c2 c3); go_simp; (try with_reducible rfl))
      try simp only [Act.put, List.getElem_toArray, List.getElem_cons_zero, List.getElem_cons_succ, List.setIfInBounds_toArray, List.set_cons_zero, List.set_cons_succ]
      refine wpAnyH_ready (rs := [13]) (by kernel_rfl) (by simp) ?_
      refine AllReadyH.cons rfl (fun K hK => ?_) AllReadyH.nil
      rw [if_pos (by rfl)]
      go_simp
      refine (CE.out _).mono ?_
      rintro e wx2 ⟨rfl, hb⟩
      have HX2 := Lib.hid (HX1.out.go hb)
      clear hb
      refine hK.out _ _ ?_ (fun hHeld => ?_)
      · exact HX2.out
      clear hK K
      try simp only [Act.put, List.getElem_toArray, List.getElem_cons_zero, List.getElem_cons_succ, List.setIfInBounds_toArray, List.set_cons_zero, List.set_cons_succ]
      refine wpAnyH_ready (rs := [15]) (by kernel_rfl) (by simp) ?_
      refine AllReadyH.cons rfl (fun K hK => ?_) AllReadyH.nil
      rw [if_pos (by rfl)]
      go_simp
      refine (CHH.out _ HX2.out.hr).mono ?_
      rintro e wx3 ⟨rfl, hb⟩
      have HX3 := Lib.hid (HX2.out.go hb)
      clear hb
      refine hK.out _ _ ?_ (fun hHeld => ?_)
      · exact HX3.out
      clear hK K
      try simp only [Act.put, List.getElem_toArray, List.getElem_cons_zero, List.getElem_cons_succ, List.setIfInBounds_toArray, List.set_cons_zero, List.set_cons_succ]
      refine wpAnyH_take (i := 16) (v := ?_) rfl (by kernel_rfl) (by kernel_rfl) (by kernel_rfl) (fun _ _ _ h => h) (Or.inl ⟨by rfl, ?_⟩) (by assumption) ?_
      rotate_left
      · (intro w hSw; (have c0 := hSw.hs.c0; have c1 := hSw.hs.c1; have c2 := hSw.hs.c2; have c3 := hSw.hs.c3; have e0 := hSw.hp.c0; have e1 := hSw.hp.c1; simp only at c0 c2 c3); go_simp; (try with_reducible rfl))
      try simp only [Act.put, List.getElem_toArray, List.getElem_cons_zero, List.getElem_cons_succ, List.setIfInBounds_toArray, List.set_cons_zero, List.set_cons_succ]
      refine wpAnyH_take (i := 17) (v := ?_) rfl (by kernel_rfl) (by kernel_rfl) (by kernel_rfl) (fun _ _ _ h => h) (Or.inl ⟨by rfl, ?_⟩) (by assumption) ?_
      rotate_left
      · (intro w hSw; (have c0 := hSw.hs.c0; have c1 := hSw.hs.c1; have c2 := hSw.hs.c2; have c3 := hSw.hs.c3; have e0 := hSw.hp.c0; have e1 := hSw.hp.c1; simp only at c0 c2 c3); go_simp; (try with_reducible rfl))
      try simp only [Act.put, List.getElem_toArray, List.getElem_cons_zero, List.getElem_cons_succ, List.setIfInBounds_toArray, List.set_cons_zero, List.set_cons_succ]
      refine wpAnyH_take (i := 18) (v := ?_) rfl (by kernel_rfl) (by kernel_rfl) (by kernel_rfl) (fun _ _ _ h => h) (Or.inl ⟨by rfl, ?_⟩) (by assumption) ?_
      rotate_left
      · (intro w hSw; (have c0 := hSw.hs.c0; have c1 := hSw.hs.c1; have c2 := hSw.hs.c2; have c3 := hSw.hs.c3; have e0 := hSw.hp.c0; have e1 := hSw.hp.c1; simp only at c0 c2 c3); go_simp; (try with_reducible rfl))
      try simp only [Act.put, List.getElem_toArray, List.getElem_cons_zero, List.getElem_cons_succ, List.setIfInBounds_toArray, List.set_cons_zero, List.set_cons_succ]
      refine wpAnyH_done (by kernel_rfl) (NoPanic.normal ?_) _
      go_wp2_with fail
      go_ret
      exact ⟨rfl, hHeld.hb⟩
    | false =>
      clear hEf
      go_enter Try.func14, Try.ntmps14
      go_wp2_with fail
      refine (CE.out _).mono ?_
      rintro e w1 ⟨rfl, hb⟩
      have HS1 := Lib.hid ((HS0.out.go hb).go (Below.refl _ _).drew)
      clear hb
      go_wp2_with fail
      refine wp_region_noPanic ?_
      refine wp_region_held_drew (S := fun W : World => SP w w.heap.size (w.heap.size + 1) ⟨rd, l, fin, true⟩ (.slice a n c) T off d W) (by kernel_rfl) ?_ (fun hHeld => ?_)
      · exact HS1.out
      refine wpAnyH_take (i := 0) (v := ?_) rfl (by kernel_rfl) (by kernel_rfl) (by kernel_rfl) (fun _ _ _ h => h) (Or.inl ⟨by rfl, ?_⟩) (by assumption) ?_
      rotate_left
      · (intro w hSw; (have c0 := hSw.hs.c0; have c1 := hSw.hs.c1; have c2 := hSw.hs.c2; have c3 := hSw.hs.c3; have e0 := hSw.hp.c0; have e1 := hSw.hp.c1; simp only at c0 c2 c3); go_simp; (try with_reducible rfl))
      try simp only [Act.put, List.getElem_toArray, List.getElem_cons_zero, List.getElem_cons_succ, List.setIfInBounds_toArray, List.set_cons_zero, List.set_cons_succ]
      refine wpAnyH_take (i := 1) (v := ?_) rfl (by kernel_rfl) (by kernel_rfl) (by kernel_rfl) (fun _ _ _ h => h) (Or.inl ⟨by rfl, ?_⟩) (by assumption) ?_
      rotate_left
      · (intro w hSw; (have c0 := hSw.hs.c0; have c1 := hSw.hs.c1; have c2 := hSw.hs.c2; have c3 := hSw.hs.c3; have e0 := hSw.hp.c0; have e1 := hSw.hp.c1; simp only at c0 c2 c3); go_simp; (try with_reducible rfl))
      try simp only [Act.put, List.getElem_toArray, List.getElem_cons_zero, List.getElem_cons_succ, List.setIfInBounds_toArray, List.set_cons_zero, List.set_cons_succ]
      refine wpAnyH_take (i := 2) (v := ?_) rfl (by kernel_rfl) (by kernel_rfl) (by kernel_rfl) (fun _ _ _ h => h) (Or.inl ⟨by rfl, ?_⟩) (by assumption) ?_
      rotate_left
      · (intro w hSw; (have c0 := hSw.hs.c0; have c1 := hSw.hs.c1; have c2 := hSw.hs.c2; have c3 := hSw.hs.c3; have e0 := hSw.hp.c0; have e1 := hSw.hp.c1; simp only at c0 c2 c3); go_simp; (try with_reducible rfl))
      try simp only [Act.put, List.getElem_toArray, List.getElem_cons_zero, List.getElem_cons_succ, List.setIfInBounds_toArray, List.set_cons_zero, List.set_cons_succ]
      refine wpAnyH_take (i := 3) (v := ?_) rfl (by kernel_rfl) (by kernel_rfl) (by kernel_rfl) (fun _ _ _ h => h) (Or.inl ⟨by rfl, ?_⟩) (by assumption) ?_
      rotate_left
      · (intro w hSw; (have c0 := hSw.hs.c0; have c1 := hSw.hs.c1; have c2 := hSw.hs.c2; have c3 := hSw.hs.c3; have e0 := hSw.hp.c0; have e1 := hSw.hp.c1; simp only at c0 c2 c3); go_simp; (try with_reducible rfl))
      try simp only [Act.put, List.getElem_toArray, List.getElem_cons_zero, List.getElem_cons_succ, List.setIfInBounds_toArray, List.set_cons_zero, List.set_cons_succ]
      refine wpAnyH_take (i := 5) (v := ?_) rfl (by kernel_rfl) (by kernel_rfl) (by kernel_rfl) (fun _ _ _ h => h) (Or.inl ⟨by rfl, ?_⟩) (by assumption) ?_
      rotate_left
      · (intro w hSw; (have c0 := hSw.hs.c0; have c1 := hSw.hs.c1; have c2 := hSw.hs.c2; have c3 := hSw.hs.c3; have e0 := hSw.hp.c0; have e1 := hSw.hp.c1; simp only at c0 c2 c3); go_simp; (try with_reducible rfl))
      try simp only [Act.put, List.getElem_toArray, List.getElem_cons_zero, List.getElem_cons_succ, List.setIfInBounds_toArray, List.set_cons_zero, List.set_cons_succ]
      refine wpAnyH_take (i := 6) (v := ?_) rfl (by kernel_rfl) (by kernel_rfl) (by kernel_rfl) (fun _ _ _ h => h) (Or.inl ⟨by rfl, ?_⟩) (by assumption) ?_
      rotate_left
      · (intro w hSw; (have c0 := hSw.hs.c0; have c1 := hSw.hs.c1; have c2 := hSw.hs.c2; have c3 := hSw.hs.c3; have e0 := hSw.hp.c0; have e1 := hSw.hp.c1; simp only at c0 c2 c3); go_simp; (try with_reducible rfl))
      try simp only [Act.put, List.getElem_toArray, List.getElem_cons_zero, List.getElem_cons_succ, List.setIfInBounds_toArray, List.set_cons_zero, List.set_cons_succ]
      refine wpAnyH_ready (rs := [4]) (by kernel_rfl) (by simp) ?_
      refine AllReadyH.cons rfl (fun K hK => ?_) AllReadyH.nil
      rw [if_pos (by rfl)]
      go_simp
      refine (CE.out _).mono ?_
      rintro e wx1 ⟨rfl, hb⟩
      have HX1 := Lib.hid (HS1.out.go hb)
      clear hb
      refine hK.out _ _ ?_ (fun hHeld => ?_)
      · exact HX1.out
      clear hK K
      try simp only [Act.put, List.getElem_toArray, List.getElem_cons_zero, List.getElem_cons_succ, List.setIfInBounds_toArray, List.set_cons_zero, List.set_cons_succ]
      refine wpAnyH_take (i := 7) (v := ?_) rfl (by kernel_rfl) (by kernel_rfl) (by kernel_rfl) (fun _ _ _ h => h) (Or.inl ⟨by rfl, ?_⟩) (by assumption) ?_
      rotate_left
      · (intro w hSw; (have c0 := hSw.hs.c0; have c1 := hSw.hs.c1; have c2 := hSw.hs.c2; have c3 := hSw.hs.c3; have e0 := hSw.hp.c0; have e1 := hSw.hp.c1; simp only at c0 c2 c3); go_simp; (try with_reducible rfl))
      try simp only [Act.put, List.getElem_toArray, List.getElem_cons_zero, List.getElem_cons_succ, List.setIfInBounds_toArray, List.set_cons_zero, List.set_cons_succ]
      refine wpAnyH_take (i := 8) (v := ?_) rfl (by kernel_rfl) (by kernel_rfl) (by kernel_rfl) (fun _ _ _ h => h) (Or.inl ⟨by rfl, ?_⟩) (by assumption) ?_
      rotate_left
      · (intro w hSw; (have c0 := hSw.hs.c0; have c1 := hSw.hs.c1; have c2 := hSw.hs.c2; have c3 := hSw.hs.c3; have e0 := hSw.hp.c0; have e1 := hSw.hp.c1; simp only at c0 c2 c3); go_simp; (try with_reducible rfl))
      try simp only [Act.put, List.getElem_toArray, List.getElem_cons_zero, List.getElem_cons_succ, List.setIfInBounds_toArray, List.set_cons_zero, List.set_cons_succ]
      refine wpAnyH_take (i := 9) (v := ?_) rfl (by kernel_rfl) (by kernel_rfl) (by kernel_rfl) (fun _ _ _ h => h) (Or.inl ⟨by rfl, ?_⟩) (by assumption) ?_
      rotate_left
      · (intro w hSw; (have c0 := hSw.hs.c0; have c1 := hSw.hs.c1; have c2 := hSw.hs.c2; have c3 := hSw.hs.c3; have e0 := hSw.hp.c0; have e1 := hSw.hp.c1; simp only at c0 c2 c3); go_simp; (try with_reducible rfl))
      try simp only [Act.put, List.getElem_toArray, List.getElem_cons_zero, List.getElem_cons_succ, List.setIfInBounds_toArray, List.set_cons_zero, List.set_cons_succ]
      refine wpAnyH_take (i := 10) (v := ?_) rfl (by kernel_rfl) (by kernel_rfl) (by kernel_rfl) (fun _ _ _ h => h) (Or.inl ⟨by rfl, ?_⟩) (by assumption) ?_
      rotate_left
      · (intro w hSw; (have c0 := hSw.hs.c0; have c1 := hSw.hs.c1; have c2 := hSw.hs.c2; have c3 := hSw.hs.c3; have e0 := hSw.hp.c0; have e1 := hSw.hp.c1; simp only at c0 c2 c3); go_simp; (try with_reducible rfl))
      try simp only [Act.put, List.getElem_toArray, List.getElem_cons_zero, List.getElem_cons_succ, List.setIfInBounds_toArray, List.set_cons_zero, List.set_cons_succ]
      refine wpAnyH_take (i := 11) (v := ?_) rfl (by kernel_rfl) (by kernel_rfl) (by kernel_rfl) (fun _ _ _ h => h) (Or.inl ⟨by rfl, ?_⟩) (by assumption) ?_
      rotate_left
      · (intro w hSw; (have c0 := hSw.hs.c0; have c1 := hSw.hs.c1; have c2 := hSw.hs.c2; have c3 := hSw.hs.c3; have e0 := hSw.hp.c0; have e1 := hSw.hp.c1; simp only at c0 c2 c3); go_simp; (try with_reducible rfl))
      try simp only [Act.put, List.getElem_toArray, List.getElem_cons_zero, List.getElem_cons_succ, List.setIfInBounds_toArray, List.set_cons_zero, List.set_cons_succ]
      refine wpAnyH_take (i := 12) (v := undef) rfl (by kernel_rfl) (by kernel_rfl) (by kernel_rfl) (fun _ _ _ h => h) (Or.inr ⟨by rfl, rfl⟩) (by assumption) ?_
      try simp only [Act.put, List.getElem_toArray, List.getElem_cons_zero, List.getElem_cons_succ, List.setIfInBounds_toArray, List.set_cons_zero, List.set_cons_succ]
      refine wpAnyH_take (i := 13) (v := undef) rfl (by kernel_rfl) (by kernel_rfl) (by kernel_rfl) (fun _ _ _ h => h) (Or.inr ⟨by rfl, rfl⟩) (by assumption) ?_
      try simp only [Act.put, List.getElem_toArray, List.getElem_cons_zero, List.getElem_cons_succ, List.setIfInBounds_toArray, List.set_cons_zero, List.set_cons_succ]
      refine wpAnyH_take (i := 14) (v := undef) rfl (by kernel_rfl) (by kernel_rfl) (by kernel_rfl) (fun _ _ _ h => h) (Or.inr ⟨by rfl, rfl⟩) (by assumption) ?_
      try simp only [Act.put, List.getElem_toArray, List.getElem_cons_zero, List.getElem_cons_succ, List.setIfInBounds_toArray, List.set_cons_zero, List.set_cons_succ]
      refine wpAnyH_take (i := 15) (v := undef) rfl (by kernel_rfl) (by kernel_rfl) (by kernel_rfl) (fun _ _ _ h => h) (Or.inr ⟨by rfl, rfl⟩) (by assumption) ?_
      try simp only [Act.put, List.getElem_toArray, List.getElem_cons_zero, List.getElem_cons_succ, List.setIfInBounds_toArray, List.set_cons_zero, List.set_cons_succ]
      refine wpAnyH_take (i := 16) (v := undef) rfl (by kernel_rfl) (by kernel_rfl) (by kernel_rfl) (fun _ _ _ h => h) (Or.inr ⟨by rfl, rfl⟩) (by assumption) ?_
      try simp only [Act.put, List.getElem_toArray, List.getElem_cons_zero, List.getElem_cons_succ, List.setIfInBounds_toArray, List.set_cons_zero, List.set_cons_succ]
      refine wpAnyH_take (i := 17) (v := ?_) rfl (by kernel_rfl) (by kernel_rfl) (by kernel_rfl) (fun _ _ _ h => h) (Or.inl ⟨by rfl, ?_⟩) (by assumption) ?_
      rotate_left
      · (intro w hSw; (have c0 := hSw.hs.c0; have c1 := hSw.hs.c1; have c2 := hSw.hs.c2; have c3 := hSw.hs.c3; have e0 := hSw.hp.c0; have e1 := hSw.hp.c1; simp only at c0 c2 c3); go_simp; (try with_reducible rfl))
      try simp only [Act.put, List.getElem_toArray, List.getElem_cons_zero, List.getElem_cons_succ, List.setIfInBounds_toArray, List.set_cons_zero, List.set_cons_succ]
      refine wpAnyH_take (i := 18) (v := ?_) rfl (by kernel_rfl) (by kernel_rfl) (by kernel_rfl) (fun _ _ _ h => h) (Or.inl ⟨by rfl, ?_⟩) (by assumption) ?_
      rotate_left
      · (intro w hSw; (have c0 := hSw.hs.c0; have c1 := hSw.hs.c1; have c2 := hSw.hs.c2; have c3 := hSw.hs.c3; have e0 := hSw.hp.c0; have e1 := hSw.hp.c1; simp only at c0 c2 c3); go_simp; (try with_reducible rfl))
      try simp only [Act.put, List.getElem_toArray, List.getElem_cons_zero, List.getElem_cons_succ, List.setIfInBounds_toArray, List.set_cons_zero, List.set_cons_succ]
      refine wpAnyH_done (by kernel_rfl) (NoPanic.normal ?_) _
      go_wp2_with fail
      go_ret
      exact ⟨rfl, hHeld.hb⟩
  | false =>
    clear hkn hEk
    cases f with
    | true =>
      have d2 : decide (E < HH) = false := decide_eq_false (by have := hEf rfl; omega)
      clear hEf
      go_enter Try.func14, Try.ntmps14
      go_wp2_with fail
      refine (CE.out _).mono ?_
      rintro e w1 ⟨rfl, hb⟩
      have HS1 := Lib.hid ((HS0.out.go hb).go (Below.refl _ _).drew)
      clear hb
      go_wp2_with fail
      refine wp_region_noPanic ?_
      refine wp_region_held_drew (S := fun W : World => SP w w.heap.size (w.heap.size + 1) ⟨rd, l, fin, false⟩ (.slice a n c) T off d W) (by kernel_rfl) ?_ (fun hHeld => ?_)
      · exact HS1.out
      refine wpAnyH_take (i := 0) (v := ?_) rfl (by kernel_rfl) (by kernel_rfl) (by kernel_rfl) (fun _ _ _ h => h) (Or.inl ⟨by rfl, ?_⟩) (by assumption) ?_
      rotate_left
      · (intro w hSw; (have c0 := hSw.hs.c0; have c1 := hSw.hs.c1; have c2 := hSw.hs.c2; have c3 := hSw.hs.c3; have e0 := hSw.hp.c0; have e1 := hSw.hp.c1; simp only at c0 c2 c3); go_simp; (try with_reducible rfl))
      try simp only [Act.put, List.getElem_toArray, List.getElem_cons_zero, List.getElem_cons_succ, List.setIfInBounds_toArray, List.set_cons_zero, List.set_cons_succ]
      refine wpAnyH_take (i := 1) (v := ?_) rfl (by kernel_rfl) (by kernel_rfl) (by kernel_rfl) (fun _ _ _ h => h) (Or.inl ⟨by rfl, ?_⟩) (by assumption) ?_
      rotate_left
      · (intro w hSw; (have c0 := hSw.hs.c0; have c1 := hSw.hs.c1; have c2 := hSw.hs.c2; have c3 := hSw.hs.c3; have e0 := hSw.hp.c0; have e1 := hSw.hp.c1; simp only at c0 c2 c3); go_simp; (try with_reducible rfl))
      try simp only [Act.put, List.getElem_toArray, List.getElem_cons_zero, List.getElem_cons_succ, List.setIfInBounds_toArray, List.set_cons_zero, List.set_cons_succ]
      refine wpAnyH_take (i := 2) (v := ?_) rfl (by kernel_rfl) (by kernel_rfl) (by kernel_rfl) (fun _ _ _ h => h) (Or.inl ⟨by rfl, ?_⟩) (by assumption) ?_
      rotate_left
      · (intro w hSw; (have c0 := hSw.hs.c0; have c1 := hSw.hs.c1; have c2 := hSw.hs.c2; have c3 := hSw.hs.c3; have e0 := hSw.hp.c0; have e1 := hSw.hp.c1; simp only at c0 c2 c3); go_simp; (try with_reducible rfl))
      try simp only [Act.put, List.getElem_toArray, List.getElem_cons_zero, List.getElem_cons_succ, List.setIfInBounds_toArray, List.set_cons_zero, List.set_cons_succ]
      refine wpAnyH_take (i := 3) (v := undef) rfl (by kernel_rfl) (by kernel_rfl) (by kernel_rfl) (fun _ _ _ h => h) (Or.inr ⟨by rfl, rfl⟩) (by assumption) ?_
      try simp only [Act.put, List.getElem_toArray, List.getElem_cons_zero, List.getElem_cons_succ, List.setIfInBounds_toArray, List.set_cons_zero, List.set_cons_succ]
      refine wpAnyH_take (i := 4) (v := undef) rfl (by kernel_rfl) (by kernel_rfl) (by kernel_rfl) (fun _ _ _ h => h) (Or.inr ⟨by rfl, rfl⟩) (by assumption) ?_
      try simp only [Act.put, List.getElem_toArray, List.getElem_cons_zero, List.getElem_cons_succ, List.setIfInBounds_toArray, List.set_cons_zero, List.set_cons_succ]
      refine wpAnyH_take (i := 5) (v := undef) rfl (by kernel_rfl) (by kernel_rfl) (by kernel_rfl) (fun _ _ _ h => h) (Or.inr ⟨by rfl, rfl⟩) (by assumption) ?_
      try simp only [Act.put, List.getElem_toArray, List.getElem_cons_zero, List.getElem_cons_succ, List.setIfInBounds_toArray, List.set_cons_zero, List.set_cons_succ]
      refine wpAnyH_take (i := 6) (v := undef) rfl (by kernel_rfl) (by kernel_rfl) (by kernel_rfl) (fun _ _ _ h => h) (Or.inr ⟨by rfl, rfl⟩) (by assumption) ?_
      try simp only [Act.put, List.getElem_toArray, List.getElem_cons_zero, List.getElem_cons_succ, List.setIfInBounds_toArray, List.set_cons_zero, List.set_cons_succ]
      refine wpAnyH_take (i := 7) (v := undef) rfl (by kernel_rfl) (by kernel_rfl) (by kernel_rfl) (fun _ _ _ h => h) (Or.inr ⟨by rfl, rfl⟩) (by assumption) ?_
      try simp only [Act.put, List.getElem_toArray, List.getElem_cons_zero, List.getElem_cons_succ, List.setIfInBounds_toArray, List.set_cons_zero, List.set_cons_succ]
      refine wpAnyH_take (i := 8) (v := ?_) rfl (by kernel_rfl) (by kernel_rfl) (by kernel_rfl) (fun _ _ _ h => h) (Or.inl ⟨by rfl, ?_⟩) (by assumption) ?_
      rotate_left
      · (intro w hSw; (have c0 := hSw.hs.c0; have c1 := hSw.hs.c1; have c2 := hSw.hs.c2; have c3 := hSw.hs.c3; have e0 := hSw.hp.c0; have e1 := hSw.hp.c1; simp only at c0 c2 c3); go_simp; (try with_reducible rfl))
      try simp only [Act.put, List.getElem_toArray, List.getElem_cons_zero, List.getElem_cons_succ, List.setIfInBounds_toArray, List.set_cons_zero, List.set_cons_succ]
      refine wpAnyH_take (i := 9) (v := ?_) rfl (by kernel_rfl) (by kernel_rfl) (by kernel_rfl) (fun _ _ _ h => h) (Or.inl ⟨by rfl, ?_⟩) (by assumption) ?_
      rotate_left
      · (intro w hSw; (have c0 := hSw.hs.c0; have c1 := hSw.hs.c1; have c2 := hSw.hs.c2; have c3 := hSw.hs.c3; have e0 := hSw.hp.c0; have e1 := hSw.hp.c1; simp only at c0 c2 c3); go_simp; (try with_reducible rfl))
      try simp only [Act.put, List.getElem_toArray, List.getElem_cons_zero, List.getElem_cons_succ, List.setIfInBounds_toArray, List.set_cons_zero, List.set_cons_succ]
      refine wpAnyH_take (i := 10) (v := ?_) rfl (by kernel_rfl) (by kernel_rfl) (by kernel_rfl) (fun _ _ _ h => h) (Or.inl ⟨by rfl, ?_⟩) (by assumption) ?_
      rotate_left
      · (intro w hSw; (have c0 := hSw.hs.c0; have c1 := hSw.hs.c1; have c2 := hSw.hs.c2; have c3 := hSw.hs.c3; have e0 := hSw.hp.c0; have e1 := hSw.hp.c1; simp only at c0 c2 c3); go_simp; (try with_reducible rfl))
      try simp only [Act.put, List.getElem_toArray, List.getElem_cons_zero, List.getElem_cons_succ, List.setIfInBounds_toArray, List.set_cons_zero, List.set_cons_succ]
      refine wpAnyH_take (i := 11) (v := ?_) rfl (by kernel_rfl) (by kernel_rfl) (by kernel_rfl) (fun _ _ _ h => h) (Or.inl ⟨by rfl, ?_⟩) (by assumption) ?_
      rotate_left
      · (intro w hSw; (have c0 := hSw.hs.c0; have c1 := hSw.hs.c1; have c2 := hSw.hs.c2; have c3 := hSw.hs.c3; have e0 := hSw.hp.c0; have e1 := hSw.hp.c1; simp only at c0 c2 c3); go_simp; (try with_reducible rfl))
      try simp only [Act.put, List.getElem_toArray, List.getElem_cons_zero, List.getElem_cons_succ, List.setIfInBounds_toArray, List.set_cons_zero, List.set_cons_succ]
      refine wpAnyH_take (i := 12) (v := ?_) rfl (by kernel_rfl) (by kernel_rfl) (by kernel_rfl) (fun _ _ _ h => h) (Or.inl ⟨by rfl, ?_⟩) (by assumption) ?_
      rotate_left
      · (intro w hSw; (have c0 := hSw.hs.c0; have c1 := hSw.hs.c1; have c2 := hSw.hs.c2; have c3 := hSw.hs.c3; have e0 := hSw.hp.c0; have e1 := hSw.hp.c1; simp only at c0 c2 c3); go_simp; (try with_reducible rfl))
      try simp only [Act.put, List.getElem_toArray, List.getElem_cons_zero, List.getElem_cons_succ, List.setIfInBounds_toArray, List.set_cons_zero, List.set_cons_succ]
      refine wpAnyH_take (i := 14) (v := ?_) rfl (by kernel_rfl) (by kernel_rfl) (by kernel_rfl) (fun _ _ _ h => h) (Or.inl ⟨by rfl, ?_⟩) (by assumption) ?_
      rotate_left
      · (intro w hSw; (have c0 := hSw.hs.c0; have c1 := hSw.hs.c1; have c2 := hSw.hs.c2; have c3 := hSw.hs.c3; have e0 := hSw.hp.c0; have e1 := hSw.hp.c1; simp only at c0 c2 c3); go_simp; (try with_reducible rfl))
      try simp only [Act.put, List.getElem_toArray, List.getElem_cons_zero, List.getElem_cons_succ, List.setIfInBounds_toArray, List.set_cons_zero, List.set_cons_succ]
      refine wpAnyH_ready (rs := [13]) (by kernel_rfl) (by simp) ?_
      refine AllReadyH.cons rfl (fun K hK => ?_) AllReadyH.nil
      rw [if_pos (by rfl)]
      go_simp
      refine (CE.out _).mono ?_
      rintro e wx1 ⟨rfl, hb⟩
      have HX1 := Lib.hid (HS1.out.go hb)
      clear hb
      refine hK.out _ _ ?_ (fun hHeld => ?_)
      · exact HX1.out
      clear hK K
      try simp only [Act.put, List.getElem_toArray, List.getElem_cons_zero, List.getElem_cons_succ, List.setIfInBounds_toArray, List.set_cons_zero, List.set_cons_succ]
      refine wpAnyH_ready (rs := [15]) (by kernel_rfl) (by simp) ?_
      refine AllReadyH.cons rfl (fun K hK => ?_) AllReadyH.nil
      rw [if_pos (by rfl)]
      go_simp
      refine (CHH.out _ HX1.out.hr).mono ?_
      rintro e wx2 ⟨rfl, hb⟩
      have HX2 := Lib.hid (HX1.out.go hb)
      clear hb
      refine hK.out _ _ ?_ (fun hHeld => ?_)
      · exact HX2.out
      clear hK K
      try simp only [Act.put, List.getElem_toArray, List.getElem_cons_zero, List.getElem_cons_succ, List.setIfInBounds_toArray, List.set_cons_zero, List.set_cons_succ]
      refine wpAnyH_take (i := 16) (v := ?_) rfl (by kernel_rfl) (by kernel_rfl) (by kernel_rfl) (fun _ _ _ h => h) (Or.inl ⟨by rfl, ?_⟩) (by assumption) ?_
      rotate_left
      · (intro w hSw; (have c0 := hSw.hs.c0; have c1 := hSw.hs.c1; have c2 := hSw.hs.c2; have c3 := hSw.hs.c3; have e0 := hSw.hp.c0; have e1 := hSw.hp.c1; simp only at c0 c2 c3); go_simp; (try with_reducible rfl))
      try simp only [Act.put, List.getElem_toArray, List.getElem_cons_zero, List.getElem_cons_succ, List.setIfInBounds_toArray, List.set_cons_zero, List.set_cons_succ]
      refine wpAnyH_take (i := 17) (v := ?_) rfl (by kernel_rfl) (by kernel_rfl) (by kernel_rfl) (fun _ _ _ h => h) (Or.inl ⟨by rfl, ?_⟩) (by assumption) ?_
      rotate_left
      · (intro w hSw; (have c0 := hSw.hs.c0; have c1 := hSw.hs.c1; have c2 := hSw.hs.c2; have c3 := hSw.hs.c3; have e0 := hSw.hp.c0; have e1 := hSw.hp.c1; simp only at c0 c2 c3); go_simp; (try with_reducible rfl))
      try simp only [Act.put, List.getElem_toArray, List.getElem_cons_zero, List.getElem_cons_succ, List.setIfInBounds_toArray, List.set_cons_zero, List.set_cons_succ]
      refine wpAnyH_take (i := 18) (v := ?_) rfl (by kernel_rfl) (by kernel_rfl) (by kernel_rfl) (fun _ _ _ h => h) (Or.inl ⟨by rfl, ?_⟩) (by assumption) ?_
      rotate_left
      · (intro w hSw; (have c0 := hSw.hs.c0; have c1 := hSw.hs.c1; have c2 := hSw.hs.c2; have c3 := hSw.hs.c3; have e0 := hSw.hp.c0; have e1 := hSw.hp.c1; simp only at c0 c2 c3); go_simp; (try with_reducible rfl))
      try simp only [Act.put, List.getElem_toArray, List.getElem_cons_zero, List.getElem_cons_succ, List.setIfInBounds_toArray, List.set_cons_zero, List.set_cons_succ]
      refine wpAnyH_done (by kernel_rfl) (NoPanic.normal ?_) _
      go_wp2_with fail
      go_ret
      exact ⟨rfl, hHeld.hb⟩
    | false =>
      clear hEf
      go_enter Try.func14, Try.ntmps14
      go_wp2_with fail
      refine (CE.out _).mono ?_
      rintro e w1 ⟨rfl, hb⟩
      have HS1 := Lib.hid ((HS0.out.go hb).go (Below.refl _ _).drew)
      clear hb
      go_wp2_with fail
      refine wp_region_noPanic ?_
      refine wp_region_held_drew (S := fun W : World => SP w w.heap.size (w.heap.size + 1) ⟨rd, l, fin, false⟩ (.slice a n c) T off d W) (by kernel_rfl) ?_ (fun hHeld => ?_)
      · exact HS1.out
      refine wpAnyH_take (i := 0) (v := ?_) rfl (by kernel_rfl) (by kernel_rfl) (by kernel_rfl) (fun _ _ _ h => h) (Or.inl ⟨by rfl, ?_⟩) (by assumption) ?_
      rotate_left
      · (intro w hSw; (have c0 := hSw.hs.c0; have c1 := hSw.hs.c1; have c2 := hSw.hs.c2; have c3 := hSw.hs.c3; have e0 := hSw.hp.c0; have e1 := hSw.hp.c1; simp only at c0 c2 c3); go_simp; (try with_reducible rfl))
      try simp only [Act.put, List.getElem_toArray, List.getElem_cons_zero, List.getElem_cons_succ, List.setIfInBounds_toArray, List.set_cons_zero, List.set_cons_succ]
      refine wpAnyH_take (i := 1) (v := ?_) rfl (by kernel_rfl) (by kernel_rfl) (by kernel_rfl) (fun _ _ _ h => h) (Or.inl ⟨by rfl, ?_⟩) (by assumption) ?_
      rotate_left
      · (intro w hSw; (have c0 := hSw.hs.c0; have c1 := hSw.hs.c1; have c2 := hSw.hs.c2; have c3 := hSw.hs.c3; have e0 := hSw.hp.c0; have e1 := hSw.hp.c1; simp only at c0 c2 c3); go_simp; (try with_reducible rfl))
      try simp only [Act.put, List.getElem_toArray, List.getElem_cons_zero, List.getElem_cons_succ, List.setIfInBounds_toArray, List.set_cons_zero, List.set_cons_succ]
      refine wpAnyH_take (i := 2) (v := ?_) rfl (by kernel_rfl) (by kernel_rfl) (by kernel_rfl) (fun _ _ _ h => h) (Or.inl ⟨by rfl, ?_⟩) (by assumption) ?_
      rotate_left
      · (intro w hSw; (have c0 := hSw.hs.c0; have c1 := hSw.hs.c1; have c2 := hSw.hs.c2; have c3 := hSw.hs.c3; have e0 := hSw.hp.c0; have e1 := hSw.hp.c1; simp only at c0 c2 c3); go_simp; (try with_reducible rfl))
      try simp only [Act.put, List.getElem_toArray, List.getElem_cons_zero, List.getElem_cons_succ, List.setIfInBounds_toArray, List.set_cons_zero, List.set_cons_succ]
      refine wpAnyH_take (i := 3) (v := undef) rfl (by kernel_rfl) (by kernel_rfl) (by kernel_rfl) (fun _ _ _ h => h) (Or.inr ⟨by rfl, rfl⟩) (by assumption) ?_
      try simp only [Act.put, List.getElem_toArray, List.getElem_cons_zero, List.getElem_cons_succ, List.setIfInBounds_toArray, List.set_cons_zero, List.set_cons_succ]
      refine wpAnyH_take (i := 4) (v := undef) rfl (by kernel_rfl) (by kernel_rfl) (by kernel_rfl) (fun _ _ _ h => h) (Or.inr ⟨by rfl, rfl⟩) (by assumption) ?_
      try simp only [Act.put, List.getElem_toArray, List.getElem_cons_zero, List.getElem_cons_succ, List.setIfInBounds_toArray, List.set_cons_zero, List.set_cons_succ]
      refine wpAnyH_take (i := 5) (v := undef) rfl (by kernel_rfl) (by kernel_rfl) (by kernel_rfl) (fun _ _ _ h => h) (Or.inr ⟨by rfl, rfl⟩) (by assumption) ?_
      try simp only [Act.put, List.getElem_toArray, List.getElem_cons_zero, List.getElem_cons_succ, List.setIfInBounds_toArray, List.set_cons_zero, List.set_cons_succ]
      refine wpAnyH_take (i := 6) (v := undef) rfl (by kernel_rfl) (by kernel_rfl) (by kernel_rfl) (fun _ _ _ h => h) (Or.inr ⟨by rfl, rfl⟩) (by assumption) ?_
      try simp only [Act.put, List.getElem_toArray, List.getElem_cons_zero, List.getElem_cons_succ, List.setIfInBounds_toArray, List.set_cons_zero, List.set_cons_succ]
      refine wpAnyH_take (i := 7) (v := undef) rfl (by kernel_rfl) (by kernel_rfl) (by kernel_rfl) (fun _ _ _ h => h) (Or.inr ⟨by rfl, rfl⟩) (by assumption) ?_
      try simp only [Act.put, List.getElem_toArray, List.getElem_cons_zero, List.getElem_cons_succ, List.setIfInBounds_toArray, List.set_cons_zero, List.set_cons_succ]
      refine wpAnyH_take (i := 8) (v := ?_) rfl (by kernel_rfl) (by kernel_rfl) (by kernel_rfl) (fun _ _ _ h => h) (Or.inl ⟨by rfl, ?_⟩) (by assumption) ?_
      rotate_left
      · (intro w hSw; (have c0 := hSw.hs.c0; have c1 := hSw.hs.c1; have c2 := hSw.hs.c2; have c3 := hSw.hs.c3; have e0 := hSw.hp.c0; have e1 := hSw.hp.c1; simp only at c0 c2 c3); go_simp; (try with_reducible rfl))
      try simp only [Act.put, List.getElem_toArray, List.getElem_cons_zero, List.getElem_cons_succ, List.setIfInBounds_toArray, List.set_cons_zero, List.set_cons_succ]
      refine wpAnyH_take (i := 9) (v := ?_) rfl (by kernel_rfl) (by kernel_rfl) (by kernel_rfl) (fun _ _ _ h => h) (Or.inl ⟨by rfl, ?_⟩) (by assumption) ?_
      rotate_left
      · (intro w hSw; (have c0 := hSw.hs.c0; have c1 := hSw.hs.c1; have c2 := hSw.hs.c2; have c3 := hSw.hs.c3; have e0 := hSw.hp.c0; have e1 := hSw.hp.c1; simp only at c0 c2 c3); go_simp; (try with_reducible rfl))
      try simp only [Act.put, List.getElem_toArray, List.getElem_cons_zero, List.getElem_cons_succ, List.setIfInBounds_toArray, List.set_cons_zero, List.set_cons_succ]
      refine wpAnyH_take (i := 10) (v := ?_) rfl (by kernel_rfl) (by kernel_rfl) (by kernel_rfl) (fun _ _ _ h => h) (Or.inl ⟨by rfl, ?_⟩) (by assumption) ?_
      rotate_left
      · (intro w hSw; (have c0 := hSw.hs.c0; have c1 := hSw.hs.c1; have c2 := hSw.hs.c2; have c3 := hSw.hs.c3; have e0 := hSw.hp.c0; have e1 := hSw.hp.c1; simp only at c0 c2 c3); go_simp; (try with_reducible rfl))
      try simp only [Act.put, List.getElem_toArray, List.getElem_cons_zero, List.getElem_cons_succ, List.setIfInBounds_toArray, List.set_cons_zero, List.set_cons_succ]
      refine wpAnyH_take (i := 11) (v := ?_) rfl (by kernel_rfl) (by kernel_rfl) (by kernel_rfl) (fun _ _ _ h => h) (Or.inl ⟨by rfl, ?_⟩) (by assumption) ?_
      rotate_left
      · (intro w hSw; (have c0 := hSw.hs.c0; have c1 := hSw.hs.c1; have c2 := hSw.hs.c2; have c3 := hSw.hs.c3; have e0 := hSw.hp.c0; have e1 := hSw.hp.c1; simp only at c0 c2 c3); go_simp; (try with_reducible rfl))
      try simp only [Act.put, List.getElem_toArray, List.getElem_cons_zero, List.getElem_cons_succ, List.setIfInBounds_toArray, List.set_cons_zero, List.set_cons_succ]
      refine wpAnyH_take (i := 12) (v := undef) rfl (by kernel_rfl) (by kernel_rfl) (by kernel_rfl) (fun _ _ _ h => h) (Or.inr ⟨by rfl, rfl⟩) (by assumption) ?_
      try simp only [Act.put, List.getElem_toArray, List.getElem_cons_zero, List.getElem_cons_succ, List.setIfInBounds_toArray, List.set_cons_zero, List.set_cons_succ]
      refine wpAnyH_take (i := 13) (v := undef) rfl (by kernel_rfl) (by kernel_rfl) (by kernel_rfl) (fun _ _ _ h => h) (Or.inr ⟨by rfl, rfl⟩) (by assumption) ?_
      try simp only [Act.put, List.getElem_toArray, List.getElem_cons_zero, List.getElem_cons_succ, List.setIfInBounds_toArray, List.set_cons_zero, List.set_cons_succ]
      refine wpAnyH_take (i := 14) (v := undef) rfl (by kernel_rfl) (by kernel_rfl) (by kernel_rfl) (fun _ _ _ h => h) (Or.inr ⟨by rfl, rfl⟩) (by assumption) ?_
      try simp only [Act.put, List.getElem_toArray, List.getElem_cons_zero, List.getElem_cons_succ, List.setIfInBounds_toArray, List.set_cons_zero, List.set_cons_succ]
      refine wpAnyH_take (i := 15) (v := undef) rfl (by kernel_rfl) (by kernel_rfl) (by kernel_rfl) (fun _ _ _ h => h) (Or.inr ⟨by rfl, rfl⟩) (by assumption) ?_
      try simp only [Act.put, List.getElem_toArray, List.getElem_cons_zero, List.getElem_cons_succ, List.setIfInBounds_toArray, List.set_cons_zero, List.set_cons_succ]
      refine wpAnyH_take (i := 16) (v := undef) rfl (by kernel_rfl) (by kernel_rfl) (by kernel_rfl) (fun _ _ _ h => h) (Or.inr ⟨by rfl, rfl⟩) (by assumption) ?_
      try simp only [Act.put, List.getElem_toArray, List.getElem_cons_zero, List.getElem_cons_succ, List.setIfInBounds_toArray, List.set_cons_zero, List.set_cons_succ]
      refine wpAnyH_take (i := 17) (v := ?_) rfl (by kernel_rfl) (by kernel_rfl) (by kernel_rfl) (fun _ _ _ h => h) (Or.inl ⟨by rfl, ?_⟩) (by assumption) ?_
      rotate_left
      · (intro w hSw; (have c0 := hSw.hs.c0; have c1 := hSw.hs.c1; have c2 := hSw.hs.c2; have c3 := hSw.hs.c3; have e0 := hSw.hp.c0; have e1 := hSw.hp.c1; simp only at c0 c2 c3); go_simp; (try with_reducible rfl))
      try simp only [Act.put, List.getElem_toArray, List.getElem_cons_zero, List.getElem_cons_succ, List.setIfInBounds_toArray, List.set_cons_zero, List.set_cons_succ]
      refine wpAnyH_take (i := 18) (v := ?_) rfl (by kernel_rfl) (by kernel_rfl) (by kernel_rfl) (fun _ _ _ h => h) (Or.inl ⟨by rfl, ?_⟩) (by assumption) ?_
      rotate_left
      · (intro w hSw; (have c0 := hSw.hs.c0; have c1 := hSw.hs.c1; have c2 := hSw.hs.c2; have c3 := hSw.hs.c3; have e0 := hSw.hp.c0; have e1 := hSw.hp.c1; simp only at c0 c2 c3); go_simp; (try with_reducible rfl))
      try simp only [Act.put, List.getElem_toArray, List.getElem_cons_zero, List.getElem_cons_succ, List.setIfInBounds_toArray, List.set_cons_zero, List.set_cons_succ]
      refine wpAnyH_done (by kernel_rfl) (NoPanic.normal ?_) _
      go_wp2_with fail
      go_ret
      exact ⟨rfl, hHeld.hb⟩
set_option maxHeartbeats 4000000 in
theorem refuses_final (T : ByteArray) (s : GS) (a : Option Addr) (n c : Nat) (off : Int) (d : ByteArray) (f : Bool) (E : Int) (w : World) (hr : RowG w (.slice a n c) T s.l)
    (h0 : 0 ≤ off) (h1 : off ≤ 900) (h2 : d.size ≤ 900) (hE : off + (d.size : Int) = E) (hk : s.kn = true) (hEk : s.fin < E) :
    Calls Try.prog 14 #[.agg #[.int .u64 s.rd, .slice a n c, .int .u64 s.fin, .bool s.kn], .agg #[.int .u64 off, .string d], .bool f] w fun e w' => e = .returned (.int .i64 140) ∧ Below w.heap.size w w' := by
  obtain ⟨rd, l, fin, kn⟩ := s
  simp only at hk hEk
  subst hk
  have CE := Lib.hid (fun W => end_any off d W h0 (by omega) (by omega))
  have HS0 := Lib.hid (sp_made w ⟨rd, l, fin, true⟩ (.slice a n c) T off d hr)
  have gE0 : E ≤ 4611686018427387903 := by omega
  have gO0 : off ≤ 4611686018427387903 := by omega
  rw [hE] at CE
  have d1 : decide (fin < E) = true := decide_eq_true hEk
  clear hr h0 h1 h2 hE hEk
  go_enter Try.func14, Try.ntmps14
  go_wp2_with fail
  refine (CE.out _).mono ?_
  rintro e w1 ⟨rfl, hb⟩
  have HS1 := Lib.hid ((HS0.out.go hb).go (Below.refl _ _).drew)
  clear hb
  go_wp2_with fail
  refine wp_region_noPanic ?_
  refine wp_region_held_drew (S := fun W : World => SP w w.heap.size (w.heap.size + 1) ⟨rd, l, fin, true⟩ (.slice a n c) T off d W) (by kernel_rfl) ?_ (fun hHeld => ?_)
  · exact HS1.out
  refine wpAnyH_take (i := 0) (v := ?_) rfl (by kernel_rfl) (by kernel_rfl) (by kernel_rfl) (fun _ _ _ h => h) (Or.inl ⟨by rfl, ?_⟩) (by assumption) ?_
  rotate_left
  · (intro w hSw; (have c0 := hSw.hs.c0; have c1 := hSw.hs.c1; have c2 := hSw.hs.c2; have c3 := hSw.hs.c3; have e0 := hSw.hp.c0; have e1 := hSw.hp.c1; simp only at c0 c2 c3); go_simp; (try with_reducible rfl))
  try simp only [Act.put, List.getElem_toArray, List.getElem_cons_zero, List.getElem_cons_succ, List.setIfInBounds_toArray, List.set_cons_zero, List.set_cons_succ]
  refine wpAnyH_take (i := 1) (v := ?_) rfl (by kernel_rfl) (by kernel_rfl) (by kernel_rfl) (fun _ _ _ h => h) (Or.inl ⟨by rfl, ?_⟩) (by assumption) ?_
  rotate_left
  · (intro w hSw; (have c0 := hSw.hs.c0; have c1 := hSw.hs.c1; have c2 := hSw.hs.c2; have c3 := hSw.hs.c3; have e0 := hSw.hp.c0; have e1 := hSw.hp.c1; simp only at c0 c2 c3); go_simp; (try with_reducible rfl))
  try simp only [Act.put, List.getElem_toArray, List.getElem_cons_zero, List.getElem_cons_succ, List.setIfInBounds_toArray, List.set_cons_zero, List.set_cons_succ]
  refine wpAnyH_take (i := 2) (v := ?_) rfl (by kernel_rfl) (by kernel_rfl) (by kernel_rfl) (fun _ _ _ h => h) (Or.inl ⟨by rfl, ?_⟩) (by assumption) ?_
  rotate_left
  · (intro w hSw; (have c0 := hSw.hs.c0; have c1 := hSw.hs.c1; have c2 := hSw.hs.c2; have c3 := hSw.hs.c3; have e0 := hSw.hp.c0; have e1 := hSw.hp.c1; simp only at c0 c2 c3); go_simp; (try with_reducible rfl))
  try simp only [Act.put, List.getElem_toArray, List.getElem_cons_zero, List.getElem_cons_succ, List.setIfInBounds_toArray, List.set_cons_zero, List.set_cons_succ]
  refine wpAnyH_take (i := 3) (v := ?_) rfl (by kernel_rfl) (by kernel_rfl) (by kernel_rfl) (fun _ _ _ h => h) (Or.inl ⟨by rfl, ?_⟩) (by assumption) ?_
  rotate_left
  · (intro w hSw; (have c0 := hSw.hs.c0; have c1 := hSw.hs.c1; have c2 := hSw.hs.c2; have c3 := hSw.hs.c3; have e0 := hSw.hp.c0; have e1 := hSw.hp.c1; simp only at c0 c2 c3); go_simp; (try with_reducible rfl))
  try simp only [Act.put, List.getElem_toArray, List.getElem_cons_zero, List.getElem_cons_succ, List.setIfInBounds_toArray, List.set_cons_zero, List.set_cons_succ]
  refine wpAnyH_take (i := 5) (v := ?_) rfl (by kernel_rfl) (by kernel_rfl) (by kernel_rfl) (fun _ _ _ h => h) (Or.inl ⟨by rfl, ?_⟩) (by assumption) ?_
  rotate_left
  · (intro w hSw; (have c0 := hSw.hs.c0; have c1 := hSw.hs.c1; have c2 := hSw.hs.c2; have c3 := hSw.hs.c3; have e0 := hSw.hp.c0; have e1 := hSw.hp.c1; simp only at c0 c2 c3); go_simp; (try with_reducible rfl))
  try simp only [Act.put, List.getElem_toArray, List.getElem_cons_zero, List.getElem_cons_succ, List.setIfInBounds_toArray, List.set_cons_zero, List.set_cons_succ]
  refine wpAnyH_take (i := 6) (v := ?_) rfl (by kernel_rfl) (by kernel_rfl) (by kernel_rfl) (fun _ _ _ h => h) (Or.inl ⟨by rfl, ?_⟩) (by assumption) ?_
  rotate_left
  · (intro w hSw; (have c0 := hSw.hs.c0; have c1 := hSw.hs.c1; have c2 := hSw.hs.c2; have c3 := hSw.hs.c3; have e0 := hSw.hp.c0; have e1 := hSw.hp.c1; simp only at c0 c2 c3); go_simp; (try with_reducible rfl))
  try simp only [Act.put, List.getElem_toArray, List.getElem_cons_zero, List.getElem_cons_succ, List.setIfInBounds_toArray, List.set_cons_zero, List.set_cons_succ]
  refine wpAnyH_ready (rs := [4]) (by kernel_rfl) (by simp) ?_
  refine AllReadyH.cons rfl (fun K hK => ?_) AllReadyH.nil
  rw [if_pos (by rfl)]
  go_simp
  refine (CE.out _).mono ?_
  rintro e wx1 ⟨rfl, hb⟩
  have HX1 := Lib.hid (HS1.out.go hb)
  clear hb
  refine hK.out _ _ ?_ (fun hHeld => ?_)
  · exact HX1.out
  clear hK K
  try simp only [Act.put, List.getElem_toArray, List.getElem_cons_zero, List.getElem_cons_succ, List.setIfInBounds_toArray, List.set_cons_zero, List.set_cons_succ]
  refine wpAnyH_take (i := 7) (v := ?_) rfl (by kernel_rfl) (by kernel_rfl) (by kernel_rfl) (fun _ _ _ h => h) (Or.inl ⟨by rfl, ?_⟩) (by assumption) ?_
  rotate_left
  · (intro w hSw; (have c0 := hSw.hs.c0; have c1 := hSw.hs.c1; have c2 := hSw.hs.c2; have c3 := hSw.hs.c3; have e0 := hSw.hp.c0; have e1 := hSw.hp.c1; simp only at c0 c2 c3); go_simp; (try with_reducible rfl))
  try simp only [Act.put, List.getElem_toArray, List.getElem_cons_zero, List.getElem_cons_succ, List.setIfInBounds_toArray, List.set_cons_zero, List.set_cons_succ]
  refine wpAnyH_take (i := 8) (v := ?_) rfl (by kernel_rfl) (by kernel_rfl) (by kernel_rfl) (fun _ _ _ h => h) (Or.inl ⟨by rfl, ?_⟩) (by assumption) ?_
  rotate_left
  · (intro w hSw; (have c0 := hSw.hs.c0; have c1 := hSw.hs.c1; have c2 := hSw.hs.c2; have c3 := hSw.hs.c3; have e0 := hSw.hp.c0; have e1 := hSw.hp.c1; simp only at c0 c2 c3); go_simp; (try with_reducible rfl))
  try simp only [Act.put, List.getElem_toArray, List.getElem_cons_zero, List.getElem_cons_succ, List.setIfInBounds_toArray, List.set_cons_zero, List.set_cons_succ]
  refine wpAnyH_take (i := 9) (v := ?_) rfl (by kernel_rfl) (by kernel_rfl) (by kernel_rfl) (fun _ _ _ h => h) (Or.inl ⟨by rfl, ?_⟩) (by assumption) ?_
  rotate_left
  · (intro w hSw; (have c0 := hSw.hs.c0; have c1 := hSw.hs.c1; have c2 := hSw.hs.c2; have c3 := hSw.hs.c3; have e0 := hSw.hp.c0; have e1 := hSw.hp.c1; simp only at c0 c2 c3); go_simp; (try with_reducible rfl))
  try simp only [Act.put, List.getElem_toArray, List.getElem_cons_zero, List.getElem_cons_succ, List.setIfInBounds_toArray, List.set_cons_zero, List.set_cons_succ]
  refine wpAnyH_take (i := 10) (v := undef) rfl (by kernel_rfl) (by kernel_rfl) (by kernel_rfl) (fun _ _ _ h => h) (Or.inr ⟨by rfl, rfl⟩) (by assumption) ?_
  try simp only [Act.put, List.getElem_toArray, List.getElem_cons_zero, List.getElem_cons_succ, List.setIfInBounds_toArray, List.set_cons_zero, List.set_cons_succ]
  refine wpAnyH_take (i := 11) (v := undef) rfl (by kernel_rfl) (by kernel_rfl) (by kernel_rfl) (fun _ _ _ h => h) (Or.inr ⟨by rfl, rfl⟩) (by assumption) ?_
  try simp only [Act.put, List.getElem_toArray, List.getElem_cons_zero, List.getElem_cons_succ, List.setIfInBounds_toArray, List.set_cons_zero, List.set_cons_succ]
  refine wpAnyH_take (i := 12) (v := undef) rfl (by kernel_rfl) (by kernel_rfl) (by kernel_rfl) (fun _ _ _ h => h) (Or.inr ⟨by rfl, rfl⟩) (by assumption) ?_
  try simp only [Act.put, List.getElem_toArray, List.getElem_cons_zero, List.getElem_cons_succ, List.setIfInBounds_toArray, List.set_cons_zero, List.set_cons_succ]
  refine wpAnyH_take (i := 13) (v := undef) rfl (by kernel_rfl) (by kernel_rfl) (by kernel_rfl) (fun _ _ _ h => h) (Or.inr ⟨by rfl, rfl⟩) (by assumption) ?_
  try simp only [Act.put, List.getElem_toArray, List.getElem_cons_zero, List.getElem_cons_succ, List.setIfInBounds_toArray, List.set_cons_zero, List.set_cons_succ]
  refine wpAnyH_take (i := 14) (v := undef) rfl (by kernel_rfl) (by kernel_rfl) (by kernel_rfl) (fun _ _ _ h => h) (Or.inr ⟨by rfl, rfl⟩) (by assumption) ?_
  try simp only [Act.put, List.getElem_toArray, List.getElem_cons_zero, List.getElem_cons_succ, List.setIfInBounds_toArray, List.set_cons_zero, List.set_cons_succ]
  refine wpAnyH_take (i := 15) (v := undef) rfl (by kernel_rfl) (by kernel_rfl) (by kernel_rfl) (fun _ _ _ h => h) (Or.inr ⟨by rfl, rfl⟩) (by assumption) ?_
  try simp only [Act.put, List.getElem_toArray, List.getElem_cons_zero, List.getElem_cons_succ, List.setIfInBounds_toArray, List.set_cons_zero, List.set_cons_succ]
  refine wpAnyH_take (i := 16) (v := undef) rfl (by kernel_rfl) (by kernel_rfl) (by kernel_rfl) (fun _ _ _ h => h) (Or.inr ⟨by rfl, rfl⟩) (by assumption) ?_
  try simp only [Act.put, List.getElem_toArray, List.getElem_cons_zero, List.getElem_cons_succ, List.setIfInBounds_toArray, List.set_cons_zero, List.set_cons_succ]
  refine wpAnyH_take (i := 17) (v := undef) rfl (by kernel_rfl) (by kernel_rfl) (by kernel_rfl) (fun _ _ _ h => h) (Or.inr ⟨by rfl, rfl⟩) (by assumption) ?_
  try simp only [Act.put, List.getElem_toArray, List.getElem_cons_zero, List.getElem_cons_succ, List.setIfInBounds_toArray, List.set_cons_zero, List.set_cons_succ]
  refine wpAnyH_take (i := 18) (v := ?_) rfl (by kernel_rfl) (by kernel_rfl) (by kernel_rfl) (fun _ _ _ h => h) (Or.inl ⟨by rfl, ?_⟩) (by assumption) ?_
  rotate_left
  · (intro w hSw; (have c0 := hSw.hs.c0; have c1 := hSw.hs.c1; have c2 := hSw.hs.c2; have c3 := hSw.hs.c3; have e0 := hSw.hp.c0; have e1 := hSw.hp.c1; simp only at c0 c2 c3); go_simp; (try with_reducible rfl))
  try simp only [Act.put, List.getElem_toArray, List.getElem_cons_zero, List.getElem_cons_succ, List.setIfInBounds_toArray, List.set_cons_zero, List.set_cons_succ]
  refine wpAnyH_done (by kernel_rfl) (NoPanic.normal ?_) _
  go_wp2_with fail
  go_ret
  exact ⟨rfl, hHeld.hb⟩

set_option maxHeartbeats 1000000 in
theorem ofG_any (T : ByteArray) (s : GS) (a : Option Addr) (n c : Nat) (w : World) (hn : s.l.length = n) (hl : n ≤ 1000) (hr : RowG w (.slice a n c) T s.l) :
    Calls Try.prog 13 #[.agg #[.int .u64 s.rd, .slice a n c, .int .u64 s.fin, .bool s.kn]] w fun e w' => ∃ u B, e = .returned (.pointer (some ⟨B, 0, none⟩)) ∧ w.heap.size ≤ B ∧ Gb w' B 53 s u ∧ OwnG 50 w' w.heap.size u T s.l ∧ u.ownBlock ≠ some B ∧ Below w.heap.size w w' := by
  obtain ⟨rd, l, fin, kn⟩ := s
  simp only at hn hr ⊢
  have HB0 := Lib.hid ((Below.refl w.heap.size w).alloc (Nat.le_refl _) (.cells #[.int .u64 rd, .slice a n c, .int .u64 fin, .bool kn] 28))
  have HG0 := Lib.hid (gb_made w 28 ⟨rd, l, fin, kn⟩ (.slice a n c))
  have HR0 := Lib.hid (hr.go HB0.out)
  have CC := Lib.hid (fun W (h : RowG W (.slice a n c) T l) => cloneG_any T a n c l W hn hl h)
  clear hr
  go_enter Try.func13, Try.ntmps13
  go_wp2_with fail
  refine (CC.out _ HR0.out).mono ?_
  rintro e w1 ⟨u, rfl, q1, q2⟩
  obtain ⟨a1, c1, rfl⟩ := q1.form
  rw [hn] at q1 ⊢
  have HG1 := Lib.hid (HG0.out.go q2)
  have HB1 := Lib.hid (nextG HB0.out q2)
  have QF : Hid (∀ k, (Value.slice a1 n c1).ownBlock = some k → w.heap.size + 1 ≤ k ∧ k < w1.heap.size) := Lib.hid (fun k hk => by have := q1.lt hk; rw [World.size_alloc] at this; exact this)
  have HG2 := Lib.hid (HG1.out.s1 l (.slice a1 n c1))
  have HO2 := Lib.hid (q1.only (Only.setCell (O := (· = w.heap.size)) (p := ⟨w.heap.size, 1, none⟩) rfl w1 (.slice a1 n c1)) (fun k hk h => by have := (QF.out k hk).1; omega))
  have HB2 : Hid (Below w.heap.size w (w1.setCell ⟨w.heap.size, 1, none⟩ (.slice a1 n c1))) := Lib.hid (Below.setCell HB1.out (p := ⟨w.heap.size, 1, none⟩) (Nat.le_refl _) _)
  have f1 := HG1.out.fz 1
  have z0 := HG1.out.c0
  have z1 := HG1.out.c1
  have z2 := HG1.out.c2
  have z3 := HG1.out.c3
  simp only at z0 z1 z2 z3
  clear q1 q2
  go_wp2_with fail
  go_ret
  refine ⟨_, (w1.setCell ⟨w.heap.size, 1, none⟩ (.slice a1 n c1)).heap.size, by simp, by have := HB2.out.size; simpa using this, gb_made _ 53 ⟨rd, l, fin, kn⟩ (.slice a1 n c1), (HO2.out.go ((Below.refl _ _).alloc (Nat.le_refl _) _)).mono (by simp), fun h => ?_, HB2.out.alloc HB2.out.size _⟩
  have := (QF.out _ h).2
  simp at this
theorem only_atG (b k : Nat) (w : World) (u : Value) : Only (· = b) w (w.setCell ⟨b, k, none⟩ u) := Only.setCell (O := (· = b)) (p := ⟨b, k, none⟩) rfl w u
theorem only_belowG {b : Nat} {A B : World} (h : Below A.heap.size A B) : Only (· = b) A B := Only.of_all h _
set_option maxHeartbeats 1000000 in
theorem finish_any (s : GS) (a : Option Addr) (n c b : Nat) (p : Int) (w : World) (h : Gb w b 53 s (.slice a n c)) :
    Calls Try.prog 17 #[.pointer (some ⟨b, 0, none⟩), .int .u64 p] w fun e w' => e = .returned (.tuple #[]) ∧ Gb w' b 53 ⟨s.rd, s.l, p, true⟩ (.slice a n c) ∧ Only (· = b) w w' := by
  have f2 := h.fz 2
  have f3 := h.fz 3
  have z2 := h.c2
  have z3 := h.c3
  have H1 := Lib.hid ((h.s2 p).s3 true)
  have H2 := Lib.hid ((only_atG b 2 w (.int .u64 p)).trans (only_atG b 3 _ (.bool true)))
  clear h
  go_enter Try.func17, Try.ntmps17
  go_wp2_with fail
  go_end0
  exact ⟨rfl, H1.out, H2.out⟩
end Go.Proofs.Ytndnlpohdimgaaa.Rg
