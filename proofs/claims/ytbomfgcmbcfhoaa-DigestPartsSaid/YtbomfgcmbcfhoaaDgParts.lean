/- The walk of the law DigestParts. -/
import Derived.Test.YtbomfgcmbcfhoaaDgL
import Derived.OpenShut
import Derived.Deep.RegionHeld3
namespace Go.Proofs.Ytbomfgcmbcfhoaa.Dg
open Go.RowKit
set_option linter.unusedVariables false
set_option linter.unusedSimpArgs false

theorem ext_list (s : ByteArray) (i k : Nat) : (s.extract i k).data.toList = (s.data.toList.take k).drop i := by
  rw [Lib.extract_data, List.drop_take]
theorem cat_parts (s : ByteArray) (I K : Nat) (h1 : I ≤ K) (h2 : K ≤ s.size) : cat [s.extract 0 I, s.extract I K, ⟨#[]⟩, s.extract K s.size] = s.data.toList := by
  have hl : s.data.toList.length = s.size := by simp
  have e : (s.data.toList.take K).take I = s.data.toList.take I := by rw [List.take_take]; congr 1; omega
  simp only [cat, List.map_cons, List.map_nil, List.flatten_cons, List.flatten_nil, List.append_nil, ext_list, List.drop_zero]
  show s.data.toList.take I ++ ((s.data.toList.take K).drop I ++ ([] ++ (s.data.toList.take s.size).drop K)) = _
  rw [List.nil_append, List.take_of_length_le (by omega : s.data.toList.length ≤ s.size), ← List.append_assoc]
  rw [show s.data.toList.take I ++ (s.data.toList.take K).drop I = s.data.toList.take K by rw [← e, List.take_append_drop]]
  exact List.take_append_drop _ _
theorem rows_at (w : World) (cs : Array Value) {xs : List ByteArray} (h : cs = (xs.map Value.string).toArray) (g : Nat) (hg : g = w.heap.size) : RowS (w.alloc (.cells cs 9)) g 0 xs := by
  rw [hg]; exact rows_made w cs xs h _
theorem rows_under {w : World} {g : Nat} {xs : List ByteArray} (h : RowS w g 0 xs) (o : Obj) : RowS (w.alloc o) g 0 xs := h.below ((Below.refl _ _).alloc (Nat.le_refl _) o) h.1
theorem cat_one (s : ByteArray) : cat [s] = s.data.toList := by simp [cat]
set_option maxHeartbeats 4000000 in
theorem parts_any (s : ByteArray) (a b : Int) (w : World) (ha : 0 ≤ a) (hb : 0 ≤ b) (ha2 : a ≤ 65535) (hb2 : b ≤ 65535) :
    Calls Try.prog 4 #[.string s, .int .u16 a, .int .u16 b] w fun e w' => e = .returned (.bool true) ∧ Below w.heap.size w w' := by
  by_cases hs : 2000 < s.size
  · have h1 : (2000 : Int) < (s.size : Int) := by omega
    go_enter Try.func4, Try.ntmps4
    go_wp2_with fail
    refine (shown_any _).mono ?_
    rintro e w1 ⟨rfl, hb⟩
    have HB := Lib.hid hb
    clear hb
    go_wp2
    go_ret
    exact ⟨rfl, HB.out⟩
  · obtain ⟨n, hn⟩ : ∃ n, s.size = n := ⟨_, rfl⟩
    have hn1 : n ≤ 2000 := by omega
    have hni : (n : Int) ≤ 2000 := by omega
    obtain ⟨I, hI⟩ : ∃ I : Nat, a % ((n : Int) + 1) = (I : Int) := ⟨(a % ((n : Int) + 1)).toNat, by have := Int.emod_nonneg a (show ((n : Int) + 1) ≠ 0 by omega); omega⟩
    have hI1 : I ≤ n := by have := Int.emod_lt_of_pos a (show 0 < ((n : Int) + 1) by omega); omega
    obtain ⟨J, hJ⟩ : ∃ J : Nat, b % ((n : Int) - I + 1) = (J : Int) := ⟨(b % ((n : Int) - I + 1)).toNat, by have := Int.emod_nonneg b (show ((n : Int) - I + 1) ≠ 0 by omega); omega⟩
    have hJ1 : I + J ≤ n := by have := Int.emod_lt_of_pos b (show 0 < ((n : Int) - I + 1) by omega); omega
    have hI' : a.tmod ((n : Int) + 1) = (I : Int) := by rw [Int.tmod_eq_emod_of_nonneg ha]; exact hI
    have hJ' : b.tmod ((n : Int) - I + 1) = (J : Int) := by rw [Int.tmod_eq_emod_of_nonneg hb]; exact hJ
    obtain ⟨Kk, hK⟩ : ∃ Kk, I + J = Kk := ⟨_, rfl⟩
    have eK : (I : Int) + (J : Int) = (Kk : Int) := by omega
    have hK1 : I ≤ Kk := by omega
    have hK2 : Kk ≤ n := by omega
    obtain ⟨xs1, hxs1⟩ : ∃ xs1, [s.extract 0 I, s.extract I Kk, ⟨#[]⟩, s.extract Kk n] = xs1 := ⟨_, rfl⟩
    obtain ⟨xs2, hxs2⟩ : ∃ xs2, [s] = xs2 := ⟨_, rfl⟩
    have hx1 : #[Value.string (s.extract 0 I), Value.string (s.extract I Kk), Value.string ⟨#[]⟩, Value.string (s.extract Kk n)] = (xs1.map Value.string).toArray := by rw [← hxs1]; rfl
    have hx2 : #[Value.string s] = (xs2.map Value.string).toArray := by rw [← hxs2]; rfl
    have hl : s.data.toList.length = n := by simp [hn]
    have CS1 : Hid (∀ (W : World) (g : Nat), RowS W g 0 xs1 → Calls Try.prog 10 #[.slice (some ⟨g, 0, none⟩) 4 4] W fun e w' => e = .returned (.string ⟨(sha s.data.toList).toArray⟩) ∧ Below W.heap.size W w') := Lib.hid (fun W g hr => by
      have hc := cat_parts s I Kk hK1 (by omega)
      rw [hn, hxs1] at hc
      have h4 : xs1.length = 4 := by rw [← hxs1]; rfl
      have h := sum_row g 0 4 xs1 W hr (by omega) (by omega) (by rw [hc, hl]; omega)
      rw [hc, h4] at h
      exact h)
    have CS2 : Hid (∀ (W : World) (g : Nat), RowS W g 0 xs2 → Calls Try.prog 10 #[.slice (some ⟨g, 0, none⟩) 1 1] W fun e w' => e = .returned (.string ⟨(sha s.data.toList).toArray⟩) ∧ Below W.heap.size W w') := Lib.hid (fun W g hr => by
      have h4 : xs2.length = 1 := by rw [← hxs2]; rfl
      have hc : cat xs2 = s.data.toList := by rw [← hxs2]; exact cat_one s
      have h := sum_row g 0 1 xs2 W hr (by omega) (by omega) (by rw [hc, hl]; omega)
      rw [hc, h4] at h
      exact h)
    have i1 : (0 : Int) ≤ (I : Int) := by omega
    have i2 : (I : Int) ≤ (n : Int) := by omega
    have i3 : (I : Int) ≤ (Kk : Int) := by omega
    have i4 : (Kk : Int) ≤ (n : Int) := by omega
    have i5 : (0 : Int) ≤ (Kk : Int) := by omega
    have HX1 := Lib.hid hx1
    have HX2 := Lib.hid hx2
    clear hs hK hxs1 hxs2 hx1 hx2 hl
    go_enter Try.func4, Try.ntmps4
    go_wp2_with fail
    refine (shown_any _).mono ?_
    rintro e w1 ⟨rfl, hb⟩
    have HB := Lib.hid hb
    have hz1 := hb.size
    clear hb
    go_wp2_with fail
    refine wp_region_noPanic ?_
    refine wp_region_held_drew (S := fun w' => Below w.heap.size w w') (by kernel_rfl) ?_ (fun hHeld => ?_)
    · exact below_drew HB.out
    refine wpAnyH_take (i := 0) (v := ?_) rfl (by kernel_rfl) (by kernel_rfl) (by kernel_rfl) (fun _ _ _ h => h) (Or.inl ⟨by rfl, ?_⟩) (by assumption) ?_
    rotate_left
    · (intro w hSw; (try dsimp only at hSw); go_simp; (try with_reducible rfl))
    try simp only [Act.put, List.getElem_toArray, List.getElem_cons_zero, List.getElem_cons_succ, List.setIfInBounds_toArray, List.set_cons_zero, List.set_cons_succ]
    refine wpAnyH_take (i := 1) (v := ?_) rfl (by kernel_rfl) (by kernel_rfl) (by kernel_rfl) (fun _ _ _ h => h) (Or.inl ⟨by rfl, ?_⟩) (by assumption) ?_
    rotate_left
    · (intro w hSw; (try dsimp only at hSw); go_simp; (try with_reducible rfl))
    try simp only [Act.put, List.getElem_toArray, List.getElem_cons_zero, List.getElem_cons_succ, List.setIfInBounds_toArray, List.set_cons_zero, List.set_cons_succ]
    refine wpAnyH_take (i := 2) (v := ?_) rfl (by kernel_rfl) (by kernel_rfl) (by kernel_rfl) (fun _ _ _ h => h) (Or.inl ⟨by rfl, ?_⟩) (by assumption) ?_
    rotate_left
    · (intro w hSw; (try dsimp only at hSw); go_simp; (try with_reducible rfl))
    try simp only [Act.put, List.getElem_toArray, List.getElem_cons_zero, List.getElem_cons_succ, List.setIfInBounds_toArray, List.set_cons_zero, List.set_cons_succ]
    refine wpAnyH_take (i := 3) (v := ?_) rfl (by kernel_rfl) (by kernel_rfl) (by kernel_rfl) (fun _ _ _ h => h) (Or.inl ⟨by rfl, ?_⟩) (by assumption) ?_
    rotate_left
    · (intro w hSw; (try dsimp only at hSw); go_simp; (try with_reducible rfl))
    try simp only [Act.put, List.getElem_toArray, List.getElem_cons_zero, List.getElem_cons_succ, List.setIfInBounds_toArray, List.set_cons_zero, List.set_cons_succ]
    refine wpAnyH_take (i := 4) (v := ?_) rfl (by kernel_rfl) (by kernel_rfl) (by kernel_rfl) (fun _ _ _ h => h) (Or.inl ⟨by rfl, ?_⟩) (by assumption) ?_
    rotate_left
    · (intro w hSw; (try dsimp only at hSw); go_simp; (try with_reducible rfl))
    try simp only [Act.put, List.getElem_toArray, List.getElem_cons_zero, List.getElem_cons_succ, List.setIfInBounds_toArray, List.set_cons_zero, List.set_cons_succ]
    refine wpAnyH_take (i := 5) (v := ?_) rfl (by kernel_rfl) (by kernel_rfl) (by kernel_rfl) (fun _ _ _ h => h) (Or.inl ⟨by rfl, ?_⟩) (by assumption) ?_
    rotate_left
    · (intro w hSw; (try dsimp only at hSw); go_simp; (try with_reducible rfl))
    try simp only [Act.put, List.getElem_toArray, List.getElem_cons_zero, List.getElem_cons_succ, List.setIfInBounds_toArray, List.set_cons_zero, List.set_cons_succ]
    refine wpAnyH_take (i := 6) (v := ?_) rfl (by kernel_rfl) (by kernel_rfl) (by kernel_rfl) (fun _ _ _ h => h) (Or.inl ⟨by rfl, ?_⟩) (by assumption) ?_
    rotate_left
    · (intro w hSw; (try dsimp only at hSw); go_simp; (try with_reducible rfl))
    try simp only [Act.put, List.getElem_toArray, List.getElem_cons_zero, List.getElem_cons_succ, List.setIfInBounds_toArray, List.set_cons_zero, List.set_cons_succ]
    refine wpAnyH_take (i := 7) (v := ?_) rfl (by kernel_rfl) (by kernel_rfl) (by kernel_rfl) (fun _ _ _ h => h) (Or.inl ⟨by rfl, ?_⟩) (by assumption) ?_
    rotate_left
    · (intro w hSw; (try dsimp only at hSw); go_simp; (try with_reducible rfl))
    try simp only [Act.put, List.getElem_toArray, List.getElem_cons_zero, List.getElem_cons_succ, List.setIfInBounds_toArray, List.set_cons_zero, List.set_cons_succ]
    refine wpAnyH_take (i := 8) (v := ?_) rfl (by kernel_rfl) (by kernel_rfl) (by kernel_rfl) (fun _ _ _ h => h) (Or.inl ⟨by rfl, ?_⟩) (by assumption) ?_
    rotate_left
    · (intro w hSw; (try dsimp only at hSw); go_simp; (try with_reducible rfl))
    try simp only [Act.put, List.getElem_toArray, List.getElem_cons_zero, List.getElem_cons_succ, List.setIfInBounds_toArray, List.set_cons_zero, List.set_cons_succ]
    refine wpAnyH_take (i := 9) (v := ?_) rfl (by kernel_rfl) (by kernel_rfl) (by kernel_rfl) (fun _ _ _ h => h) (Or.inl ⟨by rfl, ?_⟩) (by assumption) ?_
    rotate_left
    · (intro w hSw; (try dsimp only at hSw); go_simp; (try with_reducible rfl))
    try simp only [Act.put, List.getElem_toArray, List.getElem_cons_zero, List.getElem_cons_succ, List.setIfInBounds_toArray, List.set_cons_zero, List.set_cons_succ]
    refine wpAnyH_take (i := 12) (v := ?_) rfl (by kernel_rfl) (by kernel_rfl) (by kernel_rfl) (fun _ _ _ h => h) (Or.inl ⟨by rfl, ?_⟩) (by assumption) ?_
    rotate_left
    · (intro w hSw; (try dsimp only at hSw); go_simp; (try with_reducible rfl))
    try simp only [Act.put, List.getElem_toArray, List.getElem_cons_zero, List.getElem_cons_succ, List.setIfInBounds_toArray, List.set_cons_zero, List.set_cons_succ]
    refine wpAnyH_ready (rs := [10, 13]) (by kernel_rfl) (by simp) ?_
    refine AllReadyH.cons rfl (fun K hK => ?_) (AllReadyH.cons rfl (fun K hK => ?_) AllReadyH.nil)
    · rw [if_pos (by rfl)]
      go_simp
      have R0 : Hid (RowS (w1.alloc (.cells #[.string (s.extract 0 I), .string (s.extract I Kk), .string ⟨#[]⟩, .string (s.extract Kk n)] 9)).drew (w1.heap.size) 0 xs1) := Lib.hid (show RowS (w1.alloc (.cells #[.string (s.extract 0 I), .string (s.extract I Kk), .string ⟨#[]⟩, .string (s.extract Kk n)] 9)) (w1.heap.size) 0 xs1 from rows_at w1 _ HX1.out _ (by first | rfl | simp))
      refine hK.out _ _ ?_ (fun hHeld => ?_)
      · exact hHeld.alloc hHeld.size _
      clear hK K
      try simp only [Act.put, List.getElem_toArray, List.getElem_cons_zero, List.getElem_cons_succ, List.setIfInBounds_toArray, List.set_cons_zero, List.set_cons_succ]
      refine wpAnyH_ready (rs := [11, 13]) (by kernel_rfl) (by simp) ?_
      refine AllReadyH.cons rfl (fun K hK => ?_) (AllReadyH.cons rfl (fun K hK => ?_) AllReadyH.nil)
      · rw [if_pos (by rfl)]
        go_simp
        refine (CS1.out _ _ R0.out).mono ?_
        rintro e v1 ⟨rfl, hb⟩
        refine hK.out _ _ ?_ (fun hHeld => ?_)
        · exact hHeld.trans (hb.mono hHeld.size)
        clear hK K
        try simp only [Act.put, List.getElem_toArray, List.getElem_cons_zero, List.getElem_cons_succ, List.setIfInBounds_toArray, List.set_cons_zero, List.set_cons_succ]
        refine wpAnyH_ready (rs := [13]) (by kernel_rfl) (by simp) ?_
        refine AllReadyH.cons rfl (fun K hK => ?_) AllReadyH.nil
        rw [if_pos (by rfl)]
        go_simp
        have R1 : Hid (RowS (v1.alloc (.cells #[.string s] 9)) (v1.heap.size) 0 xs2) := Lib.hid (show RowS (v1.alloc (.cells #[.string s] 9)) (v1.heap.size) 0 xs2 from rows_at v1 _ HX2.out _ (by first | rfl | simp))
        refine hK.out _ _ ?_ (fun hHeld => ?_)
        · exact hHeld.alloc hHeld.size _
        clear hK K
        try simp only [Act.put, List.getElem_toArray, List.getElem_cons_zero, List.getElem_cons_succ, List.setIfInBounds_toArray, List.set_cons_zero, List.set_cons_succ]
        refine wpAnyH_ready (rs := [14]) (by kernel_rfl) (by simp) ?_
        refine AllReadyH.cons rfl (fun K hK => ?_) AllReadyH.nil
        rw [if_pos (by rfl)]
        go_simp
        refine (CS2.out _ _ R1.out).mono ?_
        rintro e v2 ⟨rfl, hb⟩
        refine hK.out _ _ ?_ (fun hHeld => ?_)
        · exact hHeld.trans (hb.mono hHeld.size)
        clear hK K
        try simp only [Act.put, List.getElem_toArray, List.getElem_cons_zero, List.getElem_cons_succ, List.setIfInBounds_toArray, List.set_cons_zero, List.set_cons_succ]
        refine wpAnyH_take (i := 15) (v := ?_) rfl (by kernel_rfl) (by kernel_rfl) (by kernel_rfl) (fun _ _ _ h => h) (Or.inl ⟨by rfl, ?_⟩) (by assumption) ?_
        rotate_left
        · (intro w hSw; (try dsimp only at hSw); go_simp; (try with_reducible rfl))
        try simp only [Act.put, List.getElem_toArray, List.getElem_cons_zero, List.getElem_cons_succ, List.setIfInBounds_toArray, List.set_cons_zero, List.set_cons_succ]
        refine wpAnyH_take (i := 16) (v := ?_) rfl (by kernel_rfl) (by kernel_rfl) (by kernel_rfl) (fun _ _ _ h => h) (Or.inl ⟨by rfl, ?_⟩) (by assumption) ?_
        rotate_left
        · (intro w hSw; (try dsimp only at hSw); go_simp; (try with_reducible rfl))
        try simp only [Act.put, List.getElem_toArray, List.getElem_cons_zero, List.getElem_cons_succ, List.setIfInBounds_toArray, List.set_cons_zero, List.set_cons_succ]
        refine wpAnyH_done (by kernel_rfl) (NoPanic.normal ?_) _
        have HBE := hHeld
        go_wp2
        go_ret
        exact ⟨rfl, hHeld⟩
      · rw [if_pos (by rfl)]
        go_simp
        have R1 : Hid (RowS ((w1.alloc (.cells #[.string (s.extract 0 I), .string (s.extract I Kk), .string ⟨#[]⟩, .string (s.extract Kk n)] 9)).alloc (.cells #[.string s] 9)).drew (w1.heap.size + 1) 0 xs2) := Lib.hid (show RowS ((w1.alloc (.cells #[.string (s.extract 0 I), .string (s.extract I Kk), .string ⟨#[]⟩, .string (s.extract Kk n)] 9)).alloc (.cells #[.string s] 9)) (w1.heap.size + 1) 0 xs2 from rows_at (w1.alloc (.cells #[.string (s.extract 0 I), .string (s.extract I Kk), .string ⟨#[]⟩, .string (s.extract Kk n)] 9)) _ HX2.out _ (by first | rfl | simp))
        replace R0 : Hid (RowS ((w1.alloc (.cells #[.string (s.extract 0 I), .string (s.extract I Kk), .string ⟨#[]⟩, .string (s.extract Kk n)] 9)).alloc (.cells #[.string s] 9)).drew (w1.heap.size) 0 xs1) := Lib.hid (show RowS ((w1.alloc (.cells #[.string (s.extract 0 I), .string (s.extract I Kk), .string ⟨#[]⟩, .string (s.extract Kk n)] 9)).alloc (.cells #[.string s] 9)) (w1.heap.size) 0 xs1 from rows_under (show RowS (w1.alloc (.cells #[.string (s.extract 0 I), .string (s.extract I Kk), .string ⟨#[]⟩, .string (s.extract Kk n)] 9)) (w1.heap.size) 0 xs1 from R0.out) _)
        refine hK.out _ _ ?_ (fun hHeld => ?_)
        · exact hHeld.alloc hHeld.size _
        clear hK K
        try simp only [Act.put, List.getElem_toArray, List.getElem_cons_zero, List.getElem_cons_succ, List.setIfInBounds_toArray, List.set_cons_zero, List.set_cons_succ]
        refine wpAnyH_ready (rs := [11]) (by kernel_rfl) (by simp) ?_
        refine AllReadyH.cons rfl (fun K hK => ?_) AllReadyH.nil
        rw [if_pos (by rfl)]
        go_simp
        refine (CS1.out _ _ R0.out).mono ?_
        rintro e v3 ⟨rfl, hb⟩
        replace R1 : Hid (RowS v3 (w1.heap.size + 1) 0 xs2) := Lib.hid (RowS.below R1.out hb R1.out.1)
        refine hK.out _ _ ?_ (fun hHeld => ?_)
        · exact hHeld.trans (hb.mono hHeld.size)
        clear hK K
        try simp only [Act.put, List.getElem_toArray, List.getElem_cons_zero, List.getElem_cons_succ, List.setIfInBounds_toArray, List.set_cons_zero, List.set_cons_succ]
        refine wpAnyH_ready (rs := [14]) (by kernel_rfl) (by simp) ?_
        refine AllReadyH.cons rfl (fun K hK => ?_) AllReadyH.nil
        rw [if_pos (by rfl)]
        go_simp
        refine (CS2.out _ _ R1.out).mono ?_
        rintro e v4 ⟨rfl, hb⟩
        refine hK.out _ _ ?_ (fun hHeld => ?_)
        · exact hHeld.trans (hb.mono hHeld.size)
        clear hK K
        try simp only [Act.put, List.getElem_toArray, List.getElem_cons_zero, List.getElem_cons_succ, List.setIfInBounds_toArray, List.set_cons_zero, List.set_cons_succ]
        refine wpAnyH_take (i := 15) (v := ?_) rfl (by kernel_rfl) (by kernel_rfl) (by kernel_rfl) (fun _ _ _ h => h) (Or.inl ⟨by rfl, ?_⟩) (by assumption) ?_
        rotate_left
        · (intro w hSw; (try dsimp only at hSw); go_simp; (try with_reducible rfl))
        try simp only [Act.put, List.getElem_toArray, List.getElem_cons_zero, List.getElem_cons_succ, List.setIfInBounds_toArray, List.set_cons_zero, List.set_cons_succ]
        refine wpAnyH_take (i := 16) (v := ?_) rfl (by kernel_rfl) (by kernel_rfl) (by kernel_rfl) (fun _ _ _ h => h) (Or.inl ⟨by rfl, ?_⟩) (by assumption) ?_
        rotate_left
        · (intro w hSw; (try dsimp only at hSw); go_simp; (try with_reducible rfl))
        try simp only [Act.put, List.getElem_toArray, List.getElem_cons_zero, List.getElem_cons_succ, List.setIfInBounds_toArray, List.set_cons_zero, List.set_cons_succ]
        refine wpAnyH_done (by kernel_rfl) (NoPanic.normal ?_) _
        have HBE := hHeld
        go_wp2
        go_ret
        exact ⟨rfl, hHeld⟩
    · rw [if_pos (by rfl)]
      go_simp
      have R1 : Hid (RowS (w1.alloc (.cells #[.string s] 9)).drew (w1.heap.size) 0 xs2) := Lib.hid (show RowS (w1.alloc (.cells #[.string s] 9)) (w1.heap.size) 0 xs2 from rows_at w1 _ HX2.out _ (by first | rfl | simp))
      refine hK.out _ _ ?_ (fun hHeld => ?_)
      · exact hHeld.alloc hHeld.size _
      clear hK K
      try simp only [Act.put, List.getElem_toArray, List.getElem_cons_zero, List.getElem_cons_succ, List.setIfInBounds_toArray, List.set_cons_zero, List.set_cons_succ]
      refine wpAnyH_ready (rs := [10]) (by kernel_rfl) (by simp) ?_
      refine AllReadyH.cons rfl (fun K hK => ?_) AllReadyH.nil
      rw [if_pos (by rfl)]
      go_simp
      have R0 : Hid (RowS ((w1.alloc (.cells #[.string s] 9)).alloc (.cells #[.string (s.extract 0 I), .string (s.extract I Kk), .string ⟨#[]⟩, .string (s.extract Kk n)] 9)).drew (w1.heap.size + 1) 0 xs1) := Lib.hid (show RowS ((w1.alloc (.cells #[.string s] 9)).alloc (.cells #[.string (s.extract 0 I), .string (s.extract I Kk), .string ⟨#[]⟩, .string (s.extract Kk n)] 9)) (w1.heap.size + 1) 0 xs1 from rows_at (w1.alloc (.cells #[.string s] 9)) _ HX1.out _ (by first | rfl | simp))
      replace R1 : Hid (RowS ((w1.alloc (.cells #[.string s] 9)).alloc (.cells #[.string (s.extract 0 I), .string (s.extract I Kk), .string ⟨#[]⟩, .string (s.extract Kk n)] 9)).drew (w1.heap.size) 0 xs2) := Lib.hid (show RowS ((w1.alloc (.cells #[.string s] 9)).alloc (.cells #[.string (s.extract 0 I), .string (s.extract I Kk), .string ⟨#[]⟩, .string (s.extract Kk n)] 9)) (w1.heap.size) 0 xs2 from rows_under (show RowS (w1.alloc (.cells #[.string s] 9)) (w1.heap.size) 0 xs2 from R1.out) _)
      refine hK.out _ _ ?_ (fun hHeld => ?_)
      · exact hHeld.alloc hHeld.size _
      clear hK K
      try simp only [Act.put, List.getElem_toArray, List.getElem_cons_zero, List.getElem_cons_succ, List.setIfInBounds_toArray, List.set_cons_zero, List.set_cons_succ]
      refine wpAnyH_ready (rs := [11]) (by kernel_rfl) (by simp) ?_
      refine AllReadyH.cons rfl (fun K hK => ?_) AllReadyH.nil
      rw [if_pos (by rfl)]
      go_simp
      refine (CS1.out _ _ R0.out).mono ?_
      rintro e v5 ⟨rfl, hb⟩
      replace R1 : Hid (RowS v5 (w1.heap.size) 0 xs2) := Lib.hid (RowS.below R1.out hb R1.out.1)
      refine hK.out _ _ ?_ (fun hHeld => ?_)
      · exact hHeld.trans (hb.mono hHeld.size)
      clear hK K
      try simp only [Act.put, List.getElem_toArray, List.getElem_cons_zero, List.getElem_cons_succ, List.setIfInBounds_toArray, List.set_cons_zero, List.set_cons_succ]
      refine wpAnyH_ready (rs := [14]) (by kernel_rfl) (by simp) ?_
      refine AllReadyH.cons rfl (fun K hK => ?_) AllReadyH.nil
      rw [if_pos (by rfl)]
      go_simp
      refine (CS2.out _ _ R1.out).mono ?_
      rintro e v6 ⟨rfl, hb⟩
      refine hK.out _ _ ?_ (fun hHeld => ?_)
      · exact hHeld.trans (hb.mono hHeld.size)
      clear hK K
      try simp only [Act.put, List.getElem_toArray, List.getElem_cons_zero, List.getElem_cons_succ, List.setIfInBounds_toArray, List.set_cons_zero, List.set_cons_succ]
      refine wpAnyH_take (i := 15) (v := ?_) rfl (by kernel_rfl) (by kernel_rfl) (by kernel_rfl) (fun _ _ _ h => h) (Or.inl ⟨by rfl, ?_⟩) (by assumption) ?_
      rotate_left
      · (intro w hSw; (try dsimp only at hSw); go_simp; (try with_reducible rfl))
      try simp only [Act.put, List.getElem_toArray, List.getElem_cons_zero, List.getElem_cons_succ, List.setIfInBounds_toArray, List.set_cons_zero, List.set_cons_succ]
      refine wpAnyH_take (i := 16) (v := ?_) rfl (by kernel_rfl) (by kernel_rfl) (by kernel_rfl) (fun _ _ _ h => h) (Or.inl ⟨by rfl, ?_⟩) (by assumption) ?_
      rotate_left
      · (intro w hSw; (try dsimp only at hSw); go_simp; (try with_reducible rfl))
      try simp only [Act.put, List.getElem_toArray, List.getElem_cons_zero, List.getElem_cons_succ, List.setIfInBounds_toArray, List.set_cons_zero, List.set_cons_succ]
      refine wpAnyH_done (by kernel_rfl) (NoPanic.normal ?_) _
      have HBE := hHeld
      go_wp2
      go_ret
      exact ⟨rfl, hHeld⟩
theorem law_parts (s : ByteArray) (a b : Int) (w : World) (w0 : s.size ≤ maxLen) (w1 : (Lit.int .u16 a).wf = true) (w2 : (Lit.int .u16 b).wf = true) :
    Calls Try.prog 4 #[.string s, .int .u16 a, .int .u16 b] w fun e w' => e = .returned (.bool true) ∧ Below w.heap.size w w' :=
  parts_any s a b w (bounds_u16 w1).1 (bounds_u16 w2).1 (bounds_u16 w1).2 (bounds_u16 w2).2
end Go.Proofs.Ytbomfgcmbcfhoaa.Dg
