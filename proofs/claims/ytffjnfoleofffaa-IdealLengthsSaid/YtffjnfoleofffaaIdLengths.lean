/- The law IdealLengths, walked. By tools/gen-ideal-4.py. -/
import Derived.Test.YtffjnfoleofffaaIdL
import Derived.Deep.RegionHeld3
import Derived.Deep.CutRange
namespace Go.Proofs.Ytffjnfoleofffaa.Id
open Go.RowKit Vm
set_option linter.unusedVariables false
set_option linter.unusedSimpArgs false

theorem sealS_len (sd nx : Nat) (cid p q : ByteArray) (h : p.size = q.size) : sealS sd nx cid p = sealS sd nx cid q := by
  unfold sealS; rw [h]
set_option maxHeartbeats 8000000 in
theorem lengths_law (s : Nat) (A B : ByteArray) (m n : Nat) (w0 : World) : Calls Try.prog 5 #[.int .u64 s, .string A, .string B, .int .u64 m, .int .u64 n] w0 fun e w' => e = .returned (.bool true) ∧ Below w0.heap.size w0 w' := by
  obtain ⟨la, hla⟩ : ∃ n, A.size = n := ⟨_, rfl⟩
  obtain ⟨lb, hlb⟩ : ∃ n, B.size = n := ⟨_, rfl⟩
  by_cases hA : la ≤ 300
  · have hAi : ¬ (300 : Int) < (la : Int) := by omega
    by_cases hB : lb ≤ 300
    · have hBi : ¬ (300 : Int) < (lb : Int) := by omega
      obtain ⟨k, hk⟩ : ∃ k, min la lb = k := ⟨_, rfl⟩
      have hmin : min (la : Int) (lb : Int) = (k : Int) := by omega
      have hka : k ≤ la := by omega
      have hkb : k ≤ lb := by omega
      have hkaI : (k : Int) ≤ (la : Int) := by omega
      have hkbI : (k : Int) ≤ (lb : Int) := by omega
      have hk0 : (0 : Int) ≤ (k : Int) := by omega
      have sA : (A.extract 0 k).size = k := by rw [ByteArray.size_extract]; omega
      have sB : (B.extract 0 k).size = k := by rw [ByteArray.size_extract]; omega
      have hE := sealS_len s 0 ⟨#[97, 98, 99, 100, 101, 102, 103, 104]⟩ (B.extract 0 k) (A.extract 0 k) (by omega)
      have hS := sealS_size s 0 ⟨#[97, 98, 99, 100, 101, 102, 103, 104]⟩ (A.extract 0 k)
      rw [sA, show (⟨#[97, 98, 99, 100, 101, 102, 103, 104]⟩ : ByteArray).size = 8 from rfl] at hS
      have CN := Lib.hid (new_any s)
      have CS1 : Hid (∀ W : World, Calls Try.prog 17 #[.agg #[.int .u64 s, .int .u64 0, .slice none 0 0], .int .i64 0, .int .u64 m, .string ⟨#[97, 98, 99, 100, 101, 102, 103, 104]⟩, .string (A.extract 0 k)] W fun e w' => ∃ a c, e = .returned (.tuple #[.agg #[.int .u64 s, .int .u64 1, .slice a 1 c], .string (sealS s 0 ⟨#[97, 98, 99, 100, 101, 102, 103, 104]⟩ (A.extract 0 k))]) ∧ Below W.heap.size W w') := Lib.hid (fun W =>
        (seal_any s 0 (.slice none 0 0) [] 0 m ⟨#[97, 98, 99, 100, 101, 102, 103, 104]⟩ (A.extract 0 k) W (RowE.nil W) (by simp) (by decide) (by omega)).mono fun e w' ⟨a, c, h1, h2, h3⟩ => ⟨a, c, h1, h3⟩)
      have CS2 : Hid (∀ W : World, Calls Try.prog 17 #[.agg #[.int .u64 s, .int .u64 0, .slice none 0 0], .int .i64 1, .int .u64 n, .string ⟨#[97, 98, 99, 100, 101, 102, 103, 104]⟩, .string (B.extract 0 k)] W fun e w' => ∃ a c, e = .returned (.tuple #[.agg #[.int .u64 s, .int .u64 1, .slice a 1 c], .string (sealS s 0 ⟨#[97, 98, 99, 100, 101, 102, 103, 104]⟩ (B.extract 0 k))]) ∧ Below W.heap.size W w') := Lib.hid (fun W =>
        (seal_any s 0 (.slice none 0 0) [] 1 n ⟨#[97, 98, 99, 100, 101, 102, 103, 104]⟩ (B.extract 0 k) W (RowE.nil W) (by simp) (by decide) (by omega)).mono fun e w' ⟨a, c, h1, h2, h3⟩ => ⟨a, c, h1, h3⟩)
      rw [hE] at CS2
      obtain ⟨SS, hSS⟩ : ∃ x, sealS s 0 ⟨#[97, 98, 99, 100, 101, 102, 103, 104]⟩ (A.extract 0 k) = x := ⟨_, rfl⟩
      rw [hSS] at CS1 CS2 hS
      have hSz : SS.size = k + 29 := by omega
      have hSe : (SS.toList == SS.toList) = true := by simp
      have hk300 : (k : Int) ≤ 300 := by omega
      clear hE hS hSS sA sB hk hA hB
      go_enter Try.func5, Try.ntmps5
      go_wp2_with fail
      with_reducible refine (shown_any _).mono ?_
      rintro e w1 ⟨rfl, hb⟩
      have HB1 := Lib.hid hb
      clear hb
      go_wp2_with fail
      go_cut [12, 13] from 34 to 43 (fun v12 v13 W => v13 = .string SS ∧ Below w0.heap.size w0 W)
      case first =>
        refine wp_region_noPanic ?_
        refine wp_region_held_drew (S := fun W : World => Below w0.heap.size w0 W) (by kernel_rfl) ?_ (fun hHeld => ?_)
        · exact HB1.out.drew
        refine wpAnyH_take (i := 0) (v := ?_) rfl (by kernel_rfl) (by kernel_rfl) (by kernel_rfl) (fun _ _ _ h => h) (Or.inl ⟨by rfl, ?_⟩) (by assumption) ?_
        rotate_left
        · (intro w hSw; (have hSb := hSw; clear hSw); go_simp; (try with_reducible rfl))
        try simp only [Act.put, List.getElem_toArray, List.getElem_cons_zero, List.getElem_cons_succ, List.setIfInBounds_toArray, List.set_cons_zero, List.set_cons_succ]
        refine wpAnyH_take (i := 2) (v := ?_) rfl (by kernel_rfl) (by kernel_rfl) (by kernel_rfl) (fun _ _ _ h => h) (Or.inl ⟨by rfl, ?_⟩) (by assumption) ?_
        rotate_left
        · (intro w hSw; (have hSb := hSw; clear hSw); go_simp; (try with_reducible rfl))
        try simp only [Act.put, List.getElem_toArray, List.getElem_cons_zero, List.getElem_cons_succ, List.setIfInBounds_toArray, List.set_cons_zero, List.set_cons_succ]
        refine wpAnyH_take (i := 3) (v := ?_) rfl (by kernel_rfl) (by kernel_rfl) (by kernel_rfl) (fun _ _ _ h => h) (Or.inl ⟨by rfl, ?_⟩) (by assumption) ?_
        rotate_left
        · (intro w hSw; (have hSb := hSw; clear hSw); go_simp; (try with_reducible rfl))
        try simp only [Act.put, List.getElem_toArray, List.getElem_cons_zero, List.getElem_cons_succ, List.setIfInBounds_toArray, List.set_cons_zero, List.set_cons_succ]
        refine wpAnyH_take (i := 4) (v := ?_) rfl (by kernel_rfl) (by kernel_rfl) (by kernel_rfl) (fun _ _ _ h => h) (Or.inl ⟨by rfl, ?_⟩) (by assumption) ?_
        rotate_left
        · (intro w hSw; (have hSb := hSw; clear hSw); go_simp; (try with_reducible rfl))
        try simp only [Act.put, List.getElem_toArray, List.getElem_cons_zero, List.getElem_cons_succ, List.setIfInBounds_toArray, List.set_cons_zero, List.set_cons_succ]
        refine wpAnyH_take (i := 5) (v := ?_) rfl (by kernel_rfl) (by kernel_rfl) (by kernel_rfl) (fun _ _ _ h => h) (Or.inl ⟨by rfl, ?_⟩) (by assumption) ?_
        rotate_left
        · (intro w hSw; (have hSb := hSw; clear hSw); go_simp; (try with_reducible rfl))
        try simp only [Act.put, List.getElem_toArray, List.getElem_cons_zero, List.getElem_cons_succ, List.setIfInBounds_toArray, List.set_cons_zero, List.set_cons_succ]
        refine wpAnyH_ready (rs := [1, 10]) (by kernel_rfl) (by simp) ?_
        refine AllReadyH.cons rfl (fun K hK => ?_) (AllReadyH.cons rfl (fun K hK => ?_) AllReadyH.nil)
        · rw [if_pos (by rfl)]
          go_simp
          with_reducible refine (CN.out _).mono ?_
          rintro e u1 ⟨rfl, hb⟩
          have HU1 := Lib.hid ((HB1.out.drew).trans (hb.mono (HB1.out.drew).size))
          clear hb
          refine hK.out _ _ ?_ (fun hHeld => ?_)
          · exact HU1.out
          clear hK K
          try simp only [Act.put, List.getElem_toArray, List.getElem_cons_zero, List.getElem_cons_succ, List.setIfInBounds_toArray, List.set_cons_zero, List.set_cons_succ]
          refine wpAnyH_ready (rs := [6, 10]) (by kernel_rfl) (by simp) ?_
          refine AllReadyH.cons rfl (fun K hK => ?_) (AllReadyH.cons rfl (fun K hK => ?_) AllReadyH.nil)
          · rw [if_pos (by rfl)]
            go_simp
            with_reducible refine (CS1.out _).mono ?_
            rintro e u2 ⟨a, c, rfl, hb⟩
            have HU2 := Lib.hid ((HU1.out).trans (hb.mono (HU1.out).size))
            clear hb
            refine hK.out _ _ ?_ (fun hHeld => ?_)
            · exact HU2.out
            clear hK K
            try simp only [Act.put, List.getElem_toArray, List.getElem_cons_zero, List.getElem_cons_succ, List.setIfInBounds_toArray, List.set_cons_zero, List.set_cons_succ]
            refine wpAnyH_take (i := 7) (v := ?_) rfl (by kernel_rfl) (by kernel_rfl) (by kernel_rfl) (fun _ _ _ h => h) (Or.inl ⟨by rfl, ?_⟩) (by assumption) ?_
            rotate_left
            · (intro w hSw; (have hSb := hSw; clear hSw); go_simp; (try with_reducible rfl))
            try simp only [Act.put, List.getElem_toArray, List.getElem_cons_zero, List.getElem_cons_succ, List.setIfInBounds_toArray, List.set_cons_zero, List.set_cons_succ]
            refine wpAnyH_take (i := 8) (v := ?_) rfl (by kernel_rfl) (by kernel_rfl) (by kernel_rfl) (fun _ _ _ h => h) (Or.inl ⟨by rfl, ?_⟩) (by assumption) ?_
            rotate_left
            · (intro w hSw; (have hSb := hSw; clear hSw); go_simp; (try with_reducible rfl))
            try simp only [Act.put, List.getElem_toArray, List.getElem_cons_zero, List.getElem_cons_succ, List.setIfInBounds_toArray, List.set_cons_zero, List.set_cons_succ]
            refine wpAnyH_take (i := 9) (v := ?_) rfl (by kernel_rfl) (by kernel_rfl) (by kernel_rfl) (fun _ _ _ h => h) (Or.inl ⟨by rfl, ?_⟩) (by assumption) ?_
            rotate_left
            · (intro w hSw; (have hSb := hSw; clear hSw); go_simp; (try with_reducible rfl))
            try simp only [Act.put, List.getElem_toArray, List.getElem_cons_zero, List.getElem_cons_succ, List.setIfInBounds_toArray, List.set_cons_zero, List.set_cons_succ]
            refine wpAnyH_ready (rs := [10]) (by kernel_rfl) (by simp) ?_
            refine AllReadyH.cons rfl (fun K hK => ?_) AllReadyH.nil
            rw [if_pos (by rfl)]
            go_simp
            have HG := Lib.hid HU2.out.size
            refine hK.out _ _ ?_ (fun hHeld => ?_)
            · exact HU2.out.alloc HU2.out.size _
            clear hK K
            try simp only [Act.put, List.getElem_toArray, List.getElem_cons_zero, List.getElem_cons_succ, List.setIfInBounds_toArray, List.set_cons_zero, List.set_cons_succ]
            refine wpAnyH_ready (rs := [11]) (by kernel_rfl) (by simp) ?_
            refine AllReadyH.cons rfl (fun K hK => ?_) AllReadyH.nil
            rw [if_pos (by rfl)]
            go_simp
            refine hK.out _ _ ?_ (fun hHeld => ?_)
            · exact HU2.out.alloc HU2.out.size _
            clear hK K
            try simp only [Act.put, List.getElem_toArray, List.getElem_cons_zero, List.getElem_cons_succ, List.setIfInBounds_toArray, List.set_cons_zero, List.set_cons_succ]
            refine wpAnyH_take (i := 12) (v := ?_) rfl (by kernel_rfl) (by kernel_rfl) (by kernel_rfl) (fun _ _ _ h => h) (Or.inl ⟨by rfl, ?_⟩) (by assumption) ?_
            rotate_left
            · (intro w hSw; (have hSb := hSw; clear hSw); go_simp; (try with_reducible rfl))
            try simp only [Act.put, List.getElem_toArray, List.getElem_cons_zero, List.getElem_cons_succ, List.setIfInBounds_toArray, List.set_cons_zero, List.set_cons_succ]
            refine wpAnyH_done (by kernel_rfl) (NoPanic.normal ?_) _
            go_wp2_with fail
            go_meet
            case rel => exact ⟨rfl, hHeld⟩
          · rw [if_pos (by rfl)]
            go_simp
            refine hK.out _ _ ?_ (fun hHeld => ?_)
            · exact HU1.out.alloc HU1.out.size _
            clear hK K
            try simp only [Act.put, List.getElem_toArray, List.getElem_cons_zero, List.getElem_cons_succ, List.setIfInBounds_toArray, List.set_cons_zero, List.set_cons_succ]
            refine wpAnyH_ready (rs := [6]) (by kernel_rfl) (by simp) ?_
            refine AllReadyH.cons rfl (fun K hK => ?_) AllReadyH.nil
            rw [if_pos (by rfl)]
            go_simp
            with_reducible refine (CS1.out _).mono ?_
            rintro e u2 ⟨a, c, rfl, hb⟩
            have HU2 := Lib.hid ((HU1.out.alloc HU1.out.size (.cells #[.int .u64 0, .int .u64 0, .slice none 0 0] 31)).trans (hb.mono (HU1.out.alloc HU1.out.size (.cells #[.int .u64 0, .int .u64 0, .slice none 0 0] 31)).size))
            have HZ := Lib.hid ((hb.block u1.heap.size (by simp)).trans (heap_alloc_new u1 (.cells #[.int .u64 0, .int .u64 0, .slice none 0 0] 31)))
            have HG := Lib.hid HU1.out.size
            have z0 : u2.cell? ⟨u1.heap.size, 0, none⟩ = _ := Lib.cell_of_heap HZ.out 0
            have z1 : u2.cell? ⟨u1.heap.size, 1, none⟩ = _ := Lib.cell_of_heap HZ.out 1
            have z2 : u2.cell? ⟨u1.heap.size, 2, none⟩ = _ := Lib.cell_of_heap HZ.out 2
            have zf : ∀ k, u2.frozen? ⟨u1.heap.size, k, none⟩ = false := fun k => Lib.frozen_of_heap HZ.out k
            clear hb
            refine hK.out _ _ ?_ (fun hHeld => ?_)
            · exact HU2.out
            clear hK K
            try simp only [Act.put, List.getElem_toArray, List.getElem_cons_zero, List.getElem_cons_succ, List.setIfInBounds_toArray, List.set_cons_zero, List.set_cons_succ]
            refine wpAnyH_take (i := 7) (v := ?_) rfl (by kernel_rfl) (by kernel_rfl) (by kernel_rfl) (fun _ _ _ h => h) (Or.inl ⟨by rfl, ?_⟩) (by assumption) ?_
            rotate_left
            · (intro w hSw; (have hSb := hSw; clear hSw); go_simp; (try with_reducible rfl))
            try simp only [Act.put, List.getElem_toArray, List.getElem_cons_zero, List.getElem_cons_succ, List.setIfInBounds_toArray, List.set_cons_zero, List.set_cons_succ]
            refine wpAnyH_take (i := 8) (v := ?_) rfl (by kernel_rfl) (by kernel_rfl) (by kernel_rfl) (fun _ _ _ h => h) (Or.inl ⟨by rfl, ?_⟩) (by assumption) ?_
            rotate_left
            · (intro w hSw; (have hSb := hSw; clear hSw); go_simp; (try with_reducible rfl))
            try simp only [Act.put, List.getElem_toArray, List.getElem_cons_zero, List.getElem_cons_succ, List.setIfInBounds_toArray, List.set_cons_zero, List.set_cons_succ]
            refine wpAnyH_take (i := 9) (v := ?_) rfl (by kernel_rfl) (by kernel_rfl) (by kernel_rfl) (fun _ _ _ h => h) (Or.inl ⟨by rfl, ?_⟩) (by assumption) ?_
            rotate_left
            · (intro w hSw; (have hSb := hSw; clear hSw); go_simp; (try with_reducible rfl))
            try simp only [Act.put, List.getElem_toArray, List.getElem_cons_zero, List.getElem_cons_succ, List.setIfInBounds_toArray, List.set_cons_zero, List.set_cons_succ]
            refine wpAnyH_ready (rs := [11]) (by kernel_rfl) (by simp) ?_
            refine AllReadyH.cons rfl (fun K hK => ?_) AllReadyH.nil
            rw [if_pos (by rfl)]
            go_simp
            refine hK.out _ _ ?_ (fun hHeld => ?_)
            · exact Below.setCell (Below.setCell (Below.setCell hHeld (p := ⟨u1.heap.size, 0, none⟩) HG.out _) (p := ⟨u1.heap.size, 1, none⟩) HG.out _) (p := ⟨u1.heap.size, 2, none⟩) HG.out _
            clear hK K
            try simp only [Act.put, List.getElem_toArray, List.getElem_cons_zero, List.getElem_cons_succ, List.setIfInBounds_toArray, List.set_cons_zero, List.set_cons_succ]
            refine wpAnyH_take (i := 12) (v := ?_) rfl (by kernel_rfl) (by kernel_rfl) (by kernel_rfl) (fun _ _ _ h => h) (Or.inl ⟨by rfl, ?_⟩) (by assumption) ?_
            rotate_left
            · (intro w hSw; (have hSb := hSw; clear hSw); go_simp; (try with_reducible rfl))
            try simp only [Act.put, List.getElem_toArray, List.getElem_cons_zero, List.getElem_cons_succ, List.setIfInBounds_toArray, List.set_cons_zero, List.set_cons_succ]
            refine wpAnyH_done (by kernel_rfl) (NoPanic.normal ?_) _
            go_wp2_with fail
            go_meet
            case rel => exact ⟨rfl, hHeld⟩
        · rw [if_pos (by rfl)]
          go_simp
          refine hK.out _ _ ?_ (fun hHeld => ?_)
          · exact (HB1.out.drew).alloc (HB1.out.drew).size _
          clear hK K
          try simp only [Act.put, List.getElem_toArray, List.getElem_cons_zero, List.getElem_cons_succ, List.setIfInBounds_toArray, List.set_cons_zero, List.set_cons_succ]
          refine wpAnyH_ready (rs := [1]) (by kernel_rfl) (by simp) ?_
          refine AllReadyH.cons rfl (fun K hK => ?_) AllReadyH.nil
          rw [if_pos (by rfl)]
          go_simp
          with_reducible refine (CN.out _).mono ?_
          rintro e u1 ⟨rfl, hb⟩
          have HU1 := Lib.hid (((HB1.out.drew).alloc (HB1.out.drew).size (.cells #[.int .u64 0, .int .u64 0, .slice none 0 0] 31)).trans (hb.mono ((HB1.out.drew).alloc (HB1.out.drew).size (.cells #[.int .u64 0, .int .u64 0, .slice none 0 0] 31)).size))
          have HZ := Lib.hid ((hb.block w1.heap.size (by simp)).trans (heap_alloc_new w1 (.cells #[.int .u64 0, .int .u64 0, .slice none 0 0] 31)))
          clear hb
          refine hK.out _ _ ?_ (fun hHeld => ?_)
          · exact HU1.out
          clear hK K
          try simp only [Act.put, List.getElem_toArray, List.getElem_cons_zero, List.getElem_cons_succ, List.setIfInBounds_toArray, List.set_cons_zero, List.set_cons_succ]
          refine wpAnyH_ready (rs := [6]) (by kernel_rfl) (by simp) ?_
          refine AllReadyH.cons rfl (fun K hK => ?_) AllReadyH.nil
          rw [if_pos (by rfl)]
          go_simp
          with_reducible refine (CS1.out _).mono ?_
          rintro e u2 ⟨a, c, rfl, hb⟩
          have HU2 := Lib.hid ((HU1.out).trans (hb.mono (HU1.out).size))
          have HZ2 := Lib.hid ((hb.block w1.heap.size (Array.getElem?_eq_some_iff.1 HZ.out).1).trans HZ.out)
          have HG := Lib.hid (HB1.out.drew).size
          have z0 : u2.cell? ⟨w1.heap.size, 0, none⟩ = _ := Lib.cell_of_heap HZ2.out 0
          have z1 : u2.cell? ⟨w1.heap.size, 1, none⟩ = _ := Lib.cell_of_heap HZ2.out 1
          have z2 : u2.cell? ⟨w1.heap.size, 2, none⟩ = _ := Lib.cell_of_heap HZ2.out 2
          have zf : ∀ k, u2.frozen? ⟨w1.heap.size, k, none⟩ = false := fun k => Lib.frozen_of_heap HZ2.out k
          clear hb
          refine hK.out _ _ ?_ (fun hHeld => ?_)
          · exact HU2.out
          clear hK K
          try simp only [Act.put, List.getElem_toArray, List.getElem_cons_zero, List.getElem_cons_succ, List.setIfInBounds_toArray, List.set_cons_zero, List.set_cons_succ]
          refine wpAnyH_take (i := 7) (v := ?_) rfl (by kernel_rfl) (by kernel_rfl) (by kernel_rfl) (fun _ _ _ h => h) (Or.inl ⟨by rfl, ?_⟩) (by assumption) ?_
          rotate_left
          · (intro w hSw; (have hSb := hSw; clear hSw); go_simp; (try with_reducible rfl))
          try simp only [Act.put, List.getElem_toArray, List.getElem_cons_zero, List.getElem_cons_succ, List.setIfInBounds_toArray, List.set_cons_zero, List.set_cons_succ]
          refine wpAnyH_take (i := 8) (v := ?_) rfl (by kernel_rfl) (by kernel_rfl) (by kernel_rfl) (fun _ _ _ h => h) (Or.inl ⟨by rfl, ?_⟩) (by assumption) ?_
          rotate_left
          · (intro w hSw; (have hSb := hSw; clear hSw); go_simp; (try with_reducible rfl))
          try simp only [Act.put, List.getElem_toArray, List.getElem_cons_zero, List.getElem_cons_succ, List.setIfInBounds_toArray, List.set_cons_zero, List.set_cons_succ]
          refine wpAnyH_take (i := 9) (v := ?_) rfl (by kernel_rfl) (by kernel_rfl) (by kernel_rfl) (fun _ _ _ h => h) (Or.inl ⟨by rfl, ?_⟩) (by assumption) ?_
          rotate_left
          · (intro w hSw; (have hSb := hSw; clear hSw); go_simp; (try with_reducible rfl))
          try simp only [Act.put, List.getElem_toArray, List.getElem_cons_zero, List.getElem_cons_succ, List.setIfInBounds_toArray, List.set_cons_zero, List.set_cons_succ]
          refine wpAnyH_ready (rs := [11]) (by kernel_rfl) (by simp) ?_
          refine AllReadyH.cons rfl (fun K hK => ?_) AllReadyH.nil
          rw [if_pos (by rfl)]
          go_simp
          refine hK.out _ _ ?_ (fun hHeld => ?_)
          · exact Below.setCell (Below.setCell (Below.setCell hHeld (p := ⟨w1.heap.size, 0, none⟩) HG.out _) (p := ⟨w1.heap.size, 1, none⟩) HG.out _) (p := ⟨w1.heap.size, 2, none⟩) HG.out _
          clear hK K
          try simp only [Act.put, List.getElem_toArray, List.getElem_cons_zero, List.getElem_cons_succ, List.setIfInBounds_toArray, List.set_cons_zero, List.set_cons_succ]
          refine wpAnyH_take (i := 12) (v := ?_) rfl (by kernel_rfl) (by kernel_rfl) (by kernel_rfl) (fun _ _ _ h => h) (Or.inl ⟨by rfl, ?_⟩) (by assumption) ?_
          rotate_left
          · (intro w hSw; (have hSb := hSw; clear hSw); go_simp; (try with_reducible rfl))
          try simp only [Act.put, List.getElem_toArray, List.getElem_cons_zero, List.getElem_cons_succ, List.setIfInBounds_toArray, List.set_cons_zero, List.set_cons_succ]
          refine wpAnyH_done (by kernel_rfl) (NoPanic.normal ?_) _
          go_wp2_with fail
          go_meet
          case rel => exact ⟨rfl, hHeld⟩
      case rest =>
        obtain ⟨rfl, hbw⟩ := hcut
        have HB2 := Lib.hid hbw
        clear hbw HB1
        go_wp2_with fail
        go_cut [14, 15] from 44 to 53 (fun v14 v15 W => v15 = .string SS ∧ Below w0.heap.size w0 W)
        case first =>
          refine wp_region_noPanic ?_
          refine wp_region_held_drew (S := fun W : World => Below w0.heap.size w0 W) (by kernel_rfl) ?_ (fun hHeld => ?_)
          · exact HB2.out.drew
          refine wpAnyH_take (i := 0) (v := ?_) rfl (by kernel_rfl) (by kernel_rfl) (by kernel_rfl) (fun _ _ _ h => h) (Or.inl ⟨by rfl, ?_⟩) (by assumption) ?_
          rotate_left
          · (intro w hSw; (have hSb := hSw; clear hSw); go_simp; (try with_reducible rfl))
          try simp only [Act.put, List.getElem_toArray, List.getElem_cons_zero, List.getElem_cons_succ, List.setIfInBounds_toArray, List.set_cons_zero, List.set_cons_succ]
          refine wpAnyH_take (i := 2) (v := ?_) rfl (by kernel_rfl) (by kernel_rfl) (by kernel_rfl) (fun _ _ _ h => h) (Or.inl ⟨by rfl, ?_⟩) (by assumption) ?_
          rotate_left
          · (intro w hSw; (have hSb := hSw; clear hSw); go_simp; (try with_reducible rfl))
          try simp only [Act.put, List.getElem_toArray, List.getElem_cons_zero, List.getElem_cons_succ, List.setIfInBounds_toArray, List.set_cons_zero, List.set_cons_succ]
          refine wpAnyH_take (i := 3) (v := ?_) rfl (by kernel_rfl) (by kernel_rfl) (by kernel_rfl) (fun _ _ _ h => h) (Or.inl ⟨by rfl, ?_⟩) (by assumption) ?_
          rotate_left
          · (intro w hSw; (have hSb := hSw; clear hSw); go_simp; (try with_reducible rfl))
          try simp only [Act.put, List.getElem_toArray, List.getElem_cons_zero, List.getElem_cons_succ, List.setIfInBounds_toArray, List.set_cons_zero, List.set_cons_succ]
          refine wpAnyH_take (i := 4) (v := ?_) rfl (by kernel_rfl) (by kernel_rfl) (by kernel_rfl) (fun _ _ _ h => h) (Or.inl ⟨by rfl, ?_⟩) (by assumption) ?_
          rotate_left
          · (intro w hSw; (have hSb := hSw; clear hSw); go_simp; (try with_reducible rfl))
          try simp only [Act.put, List.getElem_toArray, List.getElem_cons_zero, List.getElem_cons_succ, List.setIfInBounds_toArray, List.set_cons_zero, List.set_cons_succ]
          refine wpAnyH_take (i := 5) (v := ?_) rfl (by kernel_rfl) (by kernel_rfl) (by kernel_rfl) (fun _ _ _ h => h) (Or.inl ⟨by rfl, ?_⟩) (by assumption) ?_
          rotate_left
          · (intro w hSw; (have hSb := hSw; clear hSw); go_simp; (try with_reducible rfl))
          try simp only [Act.put, List.getElem_toArray, List.getElem_cons_zero, List.getElem_cons_succ, List.setIfInBounds_toArray, List.set_cons_zero, List.set_cons_succ]
          refine wpAnyH_ready (rs := [1, 10]) (by kernel_rfl) (by simp) ?_
          refine AllReadyH.cons rfl (fun K hK => ?_) (AllReadyH.cons rfl (fun K hK => ?_) AllReadyH.nil)
          · rw [if_pos (by rfl)]
            go_simp
            with_reducible refine (CN.out _).mono ?_
            rintro e u1 ⟨rfl, hb⟩
            have HU1 := Lib.hid ((HB2.out.drew).trans (hb.mono (HB2.out.drew).size))
            clear hb
            refine hK.out _ _ ?_ (fun hHeld => ?_)
            · exact HU1.out
            clear hK K
            try simp only [Act.put, List.getElem_toArray, List.getElem_cons_zero, List.getElem_cons_succ, List.setIfInBounds_toArray, List.set_cons_zero, List.set_cons_succ]
            refine wpAnyH_ready (rs := [6, 10]) (by kernel_rfl) (by simp) ?_
            refine AllReadyH.cons rfl (fun K hK => ?_) (AllReadyH.cons rfl (fun K hK => ?_) AllReadyH.nil)
            · rw [if_pos (by rfl)]
              go_simp
              with_reducible refine (CS2.out _).mono ?_
              rintro e u2 ⟨a, c, rfl, hb⟩
              have HU2 := Lib.hid ((HU1.out).trans (hb.mono (HU1.out).size))
              clear hb
              refine hK.out _ _ ?_ (fun hHeld => ?_)
              · exact HU2.out
              clear hK K
              try simp only [Act.put, List.getElem_toArray, List.getElem_cons_zero, List.getElem_cons_succ, List.setIfInBounds_toArray, List.set_cons_zero, List.set_cons_succ]
              refine wpAnyH_take (i := 7) (v := ?_) rfl (by kernel_rfl) (by kernel_rfl) (by kernel_rfl) (fun _ _ _ h => h) (Or.inl ⟨by rfl, ?_⟩) (by assumption) ?_
              rotate_left
              · (intro w hSw; (have hSb := hSw; clear hSw); go_simp; (try with_reducible rfl))
              try simp only [Act.put, List.getElem_toArray, List.getElem_cons_zero, List.getElem_cons_succ, List.setIfInBounds_toArray, List.set_cons_zero, List.set_cons_succ]
              refine wpAnyH_take (i := 8) (v := ?_) rfl (by kernel_rfl) (by kernel_rfl) (by kernel_rfl) (fun _ _ _ h => h) (Or.inl ⟨by rfl, ?_⟩) (by assumption) ?_
              rotate_left
              · (intro w hSw; (have hSb := hSw; clear hSw); go_simp; (try with_reducible rfl))
              try simp only [Act.put, List.getElem_toArray, List.getElem_cons_zero, List.getElem_cons_succ, List.setIfInBounds_toArray, List.set_cons_zero, List.set_cons_succ]
              refine wpAnyH_take (i := 9) (v := ?_) rfl (by kernel_rfl) (by kernel_rfl) (by kernel_rfl) (fun _ _ _ h => h) (Or.inl ⟨by rfl, ?_⟩) (by assumption) ?_
              rotate_left
              · (intro w hSw; (have hSb := hSw; clear hSw); go_simp; (try with_reducible rfl))
              try simp only [Act.put, List.getElem_toArray, List.getElem_cons_zero, List.getElem_cons_succ, List.setIfInBounds_toArray, List.set_cons_zero, List.set_cons_succ]
              refine wpAnyH_ready (rs := [10]) (by kernel_rfl) (by simp) ?_
              refine AllReadyH.cons rfl (fun K hK => ?_) AllReadyH.nil
              rw [if_pos (by rfl)]
              go_simp
              have HG := Lib.hid HU2.out.size
              refine hK.out _ _ ?_ (fun hHeld => ?_)
              · exact HU2.out.alloc HU2.out.size _
              clear hK K
              try simp only [Act.put, List.getElem_toArray, List.getElem_cons_zero, List.getElem_cons_succ, List.setIfInBounds_toArray, List.set_cons_zero, List.set_cons_succ]
              refine wpAnyH_ready (rs := [11]) (by kernel_rfl) (by simp) ?_
              refine AllReadyH.cons rfl (fun K hK => ?_) AllReadyH.nil
              rw [if_pos (by rfl)]
              go_simp
              refine hK.out _ _ ?_ (fun hHeld => ?_)
              · exact HU2.out.alloc HU2.out.size _
              clear hK K
              try simp only [Act.put, List.getElem_toArray, List.getElem_cons_zero, List.getElem_cons_succ, List.setIfInBounds_toArray, List.set_cons_zero, List.set_cons_succ]
              refine wpAnyH_take (i := 12) (v := ?_) rfl (by kernel_rfl) (by kernel_rfl) (by kernel_rfl) (fun _ _ _ h => h) (Or.inl ⟨by rfl, ?_⟩) (by assumption) ?_
              rotate_left
              · (intro w hSw; (have hSb := hSw; clear hSw); go_simp; (try with_reducible rfl))
              try simp only [Act.put, List.getElem_toArray, List.getElem_cons_zero, List.getElem_cons_succ, List.setIfInBounds_toArray, List.set_cons_zero, List.set_cons_succ]
              refine wpAnyH_done (by kernel_rfl) (NoPanic.normal ?_) _
              go_wp2_with fail
              go_meet
              case rel => exact ⟨rfl, hHeld⟩
            · rw [if_pos (by rfl)]
              go_simp
              refine hK.out _ _ ?_ (fun hHeld => ?_)
              · exact HU1.out.alloc HU1.out.size _
              clear hK K
              try simp only [Act.put, List.getElem_toArray, List.getElem_cons_zero, List.getElem_cons_succ, List.setIfInBounds_toArray, List.set_cons_zero, List.set_cons_succ]
              refine wpAnyH_ready (rs := [6]) (by kernel_rfl) (by simp) ?_
              refine AllReadyH.cons rfl (fun K hK => ?_) AllReadyH.nil
              rw [if_pos (by rfl)]
              go_simp
              with_reducible refine (CS2.out _).mono ?_
              rintro e u2 ⟨a, c, rfl, hb⟩
              have HU2 := Lib.hid ((HU1.out.alloc HU1.out.size (.cells #[.int .u64 0, .int .u64 0, .slice none 0 0] 31)).trans (hb.mono (HU1.out.alloc HU1.out.size (.cells #[.int .u64 0, .int .u64 0, .slice none 0 0] 31)).size))
              have HZ := Lib.hid ((hb.block u1.heap.size (by simp)).trans (heap_alloc_new u1 (.cells #[.int .u64 0, .int .u64 0, .slice none 0 0] 31)))
              have HG := Lib.hid HU1.out.size
              have z0 : u2.cell? ⟨u1.heap.size, 0, none⟩ = _ := Lib.cell_of_heap HZ.out 0
              have z1 : u2.cell? ⟨u1.heap.size, 1, none⟩ = _ := Lib.cell_of_heap HZ.out 1
              have z2 : u2.cell? ⟨u1.heap.size, 2, none⟩ = _ := Lib.cell_of_heap HZ.out 2
              have zf : ∀ k, u2.frozen? ⟨u1.heap.size, k, none⟩ = false := fun k => Lib.frozen_of_heap HZ.out k
              clear hb
              refine hK.out _ _ ?_ (fun hHeld => ?_)
              · exact HU2.out
              clear hK K
              try simp only [Act.put, List.getElem_toArray, List.getElem_cons_zero, List.getElem_cons_succ, List.setIfInBounds_toArray, List.set_cons_zero, List.set_cons_succ]
              refine wpAnyH_take (i := 7) (v := ?_) rfl (by kernel_rfl) (by kernel_rfl) (by kernel_rfl) (fun _ _ _ h => h) (Or.inl ⟨by rfl, ?_⟩) (by assumption) ?_
              rotate_left
              · (intro w hSw; (have hSb := hSw; clear hSw); go_simp; (try with_reducible rfl))
              try simp only [Act.put, List.getElem_toArray, List.getElem_cons_zero, List.getElem_cons_succ, List.setIfInBounds_toArray, List.set_cons_zero, List.set_cons_succ]
              refine wpAnyH_take (i := 8) (v := ?_) rfl (by kernel_rfl) (by kernel_rfl) (by kernel_rfl) (fun _ _ _ h => h) (Or.inl ⟨by rfl, ?_⟩) (by assumption) ?_
              rotate_left
              · (intro w hSw; (have hSb := hSw; clear hSw); go_simp; (try with_reducible rfl))
              try simp only [Act.put, List.getElem_toArray, List.getElem_cons_zero, List.getElem_cons_succ, List.setIfInBounds_toArray, List.set_cons_zero, List.set_cons_succ]
              refine wpAnyH_take (i := 9) (v := ?_) rfl (by kernel_rfl) (by kernel_rfl) (by kernel_rfl) (fun _ _ _ h => h) (Or.inl ⟨by rfl, ?_⟩) (by assumption) ?_
              rotate_left
              · (intro w hSw; (have hSb := hSw; clear hSw); go_simp; (try with_reducible rfl))
              try simp only [Act.put, List.getElem_toArray, List.getElem_cons_zero, List.getElem_cons_succ, List.setIfInBounds_toArray, List.set_cons_zero, List.set_cons_succ]
              refine wpAnyH_ready (rs := [11]) (by kernel_rfl) (by simp) ?_
              refine AllReadyH.cons rfl (fun K hK => ?_) AllReadyH.nil
              rw [if_pos (by rfl)]
              go_simp
              refine hK.out _ _ ?_ (fun hHeld => ?_)
              · exact Below.setCell (Below.setCell (Below.setCell hHeld (p := ⟨u1.heap.size, 0, none⟩) HG.out _) (p := ⟨u1.heap.size, 1, none⟩) HG.out _) (p := ⟨u1.heap.size, 2, none⟩) HG.out _
              clear hK K
              try simp only [Act.put, List.getElem_toArray, List.getElem_cons_zero, List.getElem_cons_succ, List.setIfInBounds_toArray, List.set_cons_zero, List.set_cons_succ]
              refine wpAnyH_take (i := 12) (v := ?_) rfl (by kernel_rfl) (by kernel_rfl) (by kernel_rfl) (fun _ _ _ h => h) (Or.inl ⟨by rfl, ?_⟩) (by assumption) ?_
              rotate_left
              · (intro w hSw; (have hSb := hSw; clear hSw); go_simp; (try with_reducible rfl))
              try simp only [Act.put, List.getElem_toArray, List.getElem_cons_zero, List.getElem_cons_succ, List.setIfInBounds_toArray, List.set_cons_zero, List.set_cons_succ]
              refine wpAnyH_done (by kernel_rfl) (NoPanic.normal ?_) _
              go_wp2_with fail
              go_meet
              case rel => exact ⟨rfl, hHeld⟩
          · rw [if_pos (by rfl)]
            go_simp
            refine hK.out _ _ ?_ (fun hHeld => ?_)
            · exact (HB2.out.drew).alloc (HB2.out.drew).size _
            clear hK K
            try simp only [Act.put, List.getElem_toArray, List.getElem_cons_zero, List.getElem_cons_succ, List.setIfInBounds_toArray, List.set_cons_zero, List.set_cons_succ]
            refine wpAnyH_ready (rs := [1]) (by kernel_rfl) (by simp) ?_
            refine AllReadyH.cons rfl (fun K hK => ?_) AllReadyH.nil
            rw [if_pos (by rfl)]
            go_simp
            with_reducible refine (CN.out _).mono ?_
            rintro e u1 ⟨rfl, hb⟩
            have HU1 := Lib.hid (((HB2.out.drew).alloc (HB2.out.drew).size (.cells #[.int .u64 0, .int .u64 0, .slice none 0 0] 31)).trans (hb.mono ((HB2.out.drew).alloc (HB2.out.drew).size (.cells #[.int .u64 0, .int .u64 0, .slice none 0 0] 31)).size))
            have HZ := Lib.hid ((hb.block wc.heap.size (by simp)).trans (heap_alloc_new wc (.cells #[.int .u64 0, .int .u64 0, .slice none 0 0] 31)))
            clear hb
            refine hK.out _ _ ?_ (fun hHeld => ?_)
            · exact HU1.out
            clear hK K
            try simp only [Act.put, List.getElem_toArray, List.getElem_cons_zero, List.getElem_cons_succ, List.setIfInBounds_toArray, List.set_cons_zero, List.set_cons_succ]
            refine wpAnyH_ready (rs := [6]) (by kernel_rfl) (by simp) ?_
            refine AllReadyH.cons rfl (fun K hK => ?_) AllReadyH.nil
            rw [if_pos (by rfl)]
            go_simp
            with_reducible refine (CS2.out _).mono ?_
            rintro e u2 ⟨a, c, rfl, hb⟩
            have HU2 := Lib.hid ((HU1.out).trans (hb.mono (HU1.out).size))
            have HZ2 := Lib.hid ((hb.block wc.heap.size (Array.getElem?_eq_some_iff.1 HZ.out).1).trans HZ.out)
            have HG := Lib.hid (HB2.out.drew).size
            have z0 : u2.cell? ⟨wc.heap.size, 0, none⟩ = _ := Lib.cell_of_heap HZ2.out 0
            have z1 : u2.cell? ⟨wc.heap.size, 1, none⟩ = _ := Lib.cell_of_heap HZ2.out 1
            have z2 : u2.cell? ⟨wc.heap.size, 2, none⟩ = _ := Lib.cell_of_heap HZ2.out 2
            have zf : ∀ k, u2.frozen? ⟨wc.heap.size, k, none⟩ = false := fun k => Lib.frozen_of_heap HZ2.out k
            clear hb
            refine hK.out _ _ ?_ (fun hHeld => ?_)
            · exact HU2.out
            clear hK K
            try simp only [Act.put, List.getElem_toArray, List.getElem_cons_zero, List.getElem_cons_succ, List.setIfInBounds_toArray, List.set_cons_zero, List.set_cons_succ]
            refine wpAnyH_take (i := 7) (v := ?_) rfl (by kernel_rfl) (by kernel_rfl) (by kernel_rfl) (fun _ _ _ h => h) (Or.inl ⟨by rfl, ?_⟩) (by assumption) ?_
            rotate_left
            · (intro w hSw; (have hSb := hSw; clear hSw); go_simp; (try with_reducible rfl))
            try simp only [Act.put, List.getElem_toArray, List.getElem_cons_zero, List.getElem_cons_succ, List.setIfInBounds_toArray, List.set_cons_zero, List.set_cons_succ]
            refine wpAnyH_take (i := 8) (v := ?_) rfl (by kernel_rfl) (by kernel_rfl) (by kernel_rfl) (fun _ _ _ h => h) (Or.inl ⟨by rfl, ?_⟩) (by assumption) ?_
            rotate_left
            · (intro w hSw; (have hSb := hSw; clear hSw); go_simp; (try with_reducible rfl))
            try simp only [Act.put, List.getElem_toArray, List.getElem_cons_zero, List.getElem_cons_succ, List.setIfInBounds_toArray, List.set_cons_zero, List.set_cons_succ]
            refine wpAnyH_take (i := 9) (v := ?_) rfl (by kernel_rfl) (by kernel_rfl) (by kernel_rfl) (fun _ _ _ h => h) (Or.inl ⟨by rfl, ?_⟩) (by assumption) ?_
            rotate_left
            · (intro w hSw; (have hSb := hSw; clear hSw); go_simp; (try with_reducible rfl))
            try simp only [Act.put, List.getElem_toArray, List.getElem_cons_zero, List.getElem_cons_succ, List.setIfInBounds_toArray, List.set_cons_zero, List.set_cons_succ]
            refine wpAnyH_ready (rs := [11]) (by kernel_rfl) (by simp) ?_
            refine AllReadyH.cons rfl (fun K hK => ?_) AllReadyH.nil
            rw [if_pos (by rfl)]
            go_simp
            refine hK.out _ _ ?_ (fun hHeld => ?_)
            · exact Below.setCell (Below.setCell (Below.setCell hHeld (p := ⟨wc.heap.size, 0, none⟩) HG.out _) (p := ⟨wc.heap.size, 1, none⟩) HG.out _) (p := ⟨wc.heap.size, 2, none⟩) HG.out _
            clear hK K
            try simp only [Act.put, List.getElem_toArray, List.getElem_cons_zero, List.getElem_cons_succ, List.setIfInBounds_toArray, List.set_cons_zero, List.set_cons_succ]
            refine wpAnyH_take (i := 12) (v := ?_) rfl (by kernel_rfl) (by kernel_rfl) (by kernel_rfl) (fun _ _ _ h => h) (Or.inl ⟨by rfl, ?_⟩) (by assumption) ?_
            rotate_left
            · (intro w hSw; (have hSb := hSw; clear hSw); go_simp; (try with_reducible rfl))
            try simp only [Act.put, List.getElem_toArray, List.getElem_cons_zero, List.getElem_cons_succ, List.setIfInBounds_toArray, List.set_cons_zero, List.set_cons_succ]
            refine wpAnyH_done (by kernel_rfl) (NoPanic.normal ?_) _
            go_wp2_with fail
            go_meet
            case rel => exact ⟨rfl, hHeld⟩
        case rest =>
          obtain ⟨rfl, hbw⟩ := hcut
          have HB3 := Lib.hid hbw
          clear hbw HB2
          go_wp2_with fail
          go_ret
          exact ⟨rfl, HB3.out⟩
    · have hBi : (300 : Int) < (lb : Int) := by omega
      go_enter Try.func5, Try.ntmps5
      go_wp2_with fail
      with_reducible refine (shown_any _).mono ?_
      rintro e w1 ⟨rfl, hb⟩
      have HB1 := Lib.hid hb
      clear hb
      go_wp2_with fail
      go_ret
      exact ⟨rfl, HB1.out⟩
  · have hAi : (300 : Int) < (la : Int) := by omega
    go_enter Try.func5, Try.ntmps5
    go_wp2_with fail
    with_reducible refine (shown_any _).mono ?_
    rintro e w1 ⟨rfl, hb⟩
    have HB1 := Lib.hid hb
    clear hb
    go_wp2_with fail
    go_ret
    exact ⟨rfl, HB1.out⟩
theorem law_lengths (seed : Int) (a b : ByteArray) (m n : Int) (w : World) (w0 : (Lit.int .u64 seed).wf = true) (w1 : a.size ≤ maxLen) (w2 : b.size ≤ maxLen) (w3 : (Lit.int .u64 m).wf = true) (w4 : (Lit.int .u64 n).wf = true) :
    Calls Try.prog 5 #[.int .u64 seed, .string a, .string b, .int .u64 m, .int .u64 n] w fun e w' => e = .returned (.bool true) ∧ Below w.heap.size w w' := by
  obtain ⟨s, rfl⟩ := nat_u64 w0
  obtain ⟨i, rfl⟩ := nat_u64 w3
  obtain ⟨j, rfl⟩ := nat_u64 w4
  exact lengths_law s a b i j w
end Go.Proofs.Ytffjnfoleofffaa.Id
