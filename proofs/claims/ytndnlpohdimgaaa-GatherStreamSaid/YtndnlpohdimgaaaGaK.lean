/- Layer 14: the law GatherStream. By tools/gen-gather-9.py. -/
import Derived.Test.YtndnlpohdimgaaaGaJ
namespace Go.Proofs.Ytndnlpohdimgaaa.Rg
set_option maxRecDepth 20000
open Go.RowKit Go.Shelf
set_option linter.unusedVariables false
set_option linter.unusedSimpArgs false

theorem stream_out (T : ByteArray) (a1 : Option Addr) (n1 c1 : Nat) (a2 : Option Addr) (n2 c2 : Nat) (w : World) (h : 250 < (T.size : Int) ∨ 60 < (n1 : Int)) :
    Calls Try.prog 3 #[.string T, .slice a1 n1 c1, .slice a2 n2 c2] w fun e w' => e = .returned (.bool true) ∧ Below w.heap.size w w' := by
  have CS := Lib.hid shown14_any
  by_cases h1 : 250 < (T.size : Int)
  · clear h
    go_enter Try.func3, Try.ntmps3
    go_wp2_with fail
    with_reducible refine (CS.out _).mono ?_
    rintro e w1 ⟨rfl, hb⟩
    have HB1 := Lib.hid hb
    clear hb
    go_wp2_with fail
    go_ret
    exact ⟨rfl, HB1.out⟩
  · have h2 : 60 < (n1 : Int) := h.resolve_left h1
    clear h
    go_enter Try.func3, Try.ntmps3
    go_wp2_with fail
    with_reducible refine (CS.out _).mono ?_
    rintro e w1 ⟨rfl, hb⟩
    have HB1 := Lib.hid hb
    clear hb
    go_wp2_with fail
    go_ret
    exact ⟨rfl, HB1.out⟩
/-- Between two rounds. -/
def StrRel (w : World) (g : Nat) (T : ByteArray) (n : Nat) (gv iv : Value) (wr : World) : Prop :=
  ∃ (k : Nat) (a : Option Addr) (c : Nat) (s : GS), k ≤ n ∧ iv = .int .i64 k ∧ gv = .string (T.extract 0 s.rd.toNat) ∧ GsOk T s ∧ Gb wr g 28 s (.slice a s.l.length c) ∧ RowG wr (.slice a s.l.length c) T s.l ∧ ¬ Blk (.slice a s.l.length c) g ∧ Below w.heap.size w wr
set_option maxHeartbeats 16000000 in
theorem stream_law (T : ByteArray) (a1 : Option Addr) (n1 c1 : Nat) (l : List (Int × Int)) (a2 : Option Addr) (n2 c2 : Nat) (zt : List Int) (w : World) (hT : T.size ≤ 250) (hn : n1 ≤ 60) (hl : Pcs w a1 n1 c1 l) (hz : RI .u8 w a2 n2 c2 zt) :
    Calls Try.prog 3 #[.string T, .slice a1 n1 c1, .slice a2 n2 c2] w fun e w' => e = .returned (.bool true) ∧ Below w.heap.size w w' := by
  have CS := Lib.hid shown14_any
  have HL := Lib.hid hl
  have HZ := Lib.hid hz
  have hTI : (T.size : Int) ≤ 250 := by omega
  have hnI : (n1 : Int) ≤ 60 := by omega
  have hnc : (n1 : Int) ≤ (c1 : Int) := by have := hl.1; omega
  have hnc2 : (n2 : Int) ≤ (c2 : Int) := by have := hz.1; omega
  clear hl hz hT
  go_enter Try.func3, Try.ntmps3
  go_wp2_with fail
  with_reducible refine (CS.out _).mono ?_
  rintro e w1 ⟨rfl, hb⟩
  have hA := (Below.refl w1.heap.size w1).alloc (Nat.le_refl _) (.cells #[.int .u64 0, .slice none 0 0, .int .u64 0, .bool false] 28)
  have HS0 : Hid (Gb (w1.alloc (.cells #[.int .u64 0, .slice none 0 0, .int .u64 0, .bool false] 28)) w1.heap.size 28 ⟨0, [], 0, false⟩ (.slice none 0 0)) := Lib.hid (gb_made _ _ ⟨0, [], 0, false⟩ _)
  have HB0 := Lib.hid (nextG hb hA)
  have hg0 : w.heap.size ≤ w1.heap.size := hb.size
  clear hb hA
  go_wp2_with fail
  generalize w1.alloc (.cells #[.int .u64 0, .slice none 0 0, .int .u64 0, .bool false] 28) = W0 at *
  generalize w1.heap.size = g at *
  go_loopw [8, 9, 10, 11, 12, 13, 14, 15, 16] (fun gv iv _ _ _ _ _ _ _ wr => StrRel w g T n1 gv iv wr) (fun _ iv _ _ _ _ _ _ _ _ => n1 - (intOf iv).toNat)
  case atStart => exact ⟨0, none, 0, ⟨0, [], 0, false⟩, Nat.zero_le _, rfl, (by congr 1; apply ByteArray.ext; simp), gs_zero T, HS0.out, RowG.nil _ _, fun h => h.elim, HB0.out⟩
  case round =>
    obtain ⟨k, a, c, s, hk, rfl, rfl, hok, hgb, hrow, hnb, hbb⟩ := hrel
    obtain ⟨rd, ll, fin, kn⟩ := s
    simp only at hgb hrow hnb ⊢
    obtain ⟨m, hm⟩ : ∃ m, ll.length = m := ⟨_, rfl⟩
    rw [hm] at hgb hrow hnb
    have HOK := Lib.hid hok
    have HGB := Lib.hid hgb
    have HROW := Lib.hid hrow
    have HNB := Lib.hid hnb
    have HBB := Lib.hid hbb
    have HM := Lib.hid hm
    have r0 : 0 ≤ rd := hok.r0
    have r1 : rd ≤ (T.size : Int) := hok.r1
    have hgl := hgb.lt
    obtain ⟨G, hG⟩ : ∃ G, T.extract 0 rd.toNat = G := ⟨_, rfl⟩
    rw [hG]
    have HG := Lib.hid hG
    have HGZ : Hid ((G.size : Int) = rd) := Lib.hid (by rw [← hG, ext_size (by omega)]; omega)
    clear hG
    by_cases hlt : k < n1
    · have hltI : (k : Int) < (n1 : Int) := by omega
      obtain ⟨pb, po, pe, hpc, hp0, hp1⟩ := HL.out.2 k hlt
      subst pe
      generalize l.getD k (0, 0) = px at hpc hp0 hp1
      obtain ⟨pa, pl⟩ := px
      simp only at hpc hp0 hp1
      obtain ⟨kk0, kk1⟩ := hpc wr HBB.out
      have pa0 := hp0.1
      have pl0 := hp1.1
      have v0 : IntKind.i64.wrap pa = pa := IntWalk.i64_in _ (by omega)
      have v1 : IntKind.i64.wrap pl = pl := IntWalk.i64_in _ (by omega)
      obtain ⟨A, hA⟩ : ∃ A, pa % ((T.size : Int) + 1) = A := ⟨_, rfl⟩
      have hA0 : 0 ≤ A := by rw [← hA]; exact Int.emod_nonneg _ (by omega)
      have hA1 : A ≤ (T.size : Int) := by have := Int.emod_lt_of_pos pa (show (0 : Int) < (T.size : Int) + 1 by omega); omega
      obtain ⟨Lg, hLg⟩ : ∃ A', pl % ((T.size : Int) - A + 1) = A' := ⟨_, rfl⟩
      have hL0 : 0 ≤ Lg := by rw [← hLg]; exact Int.emod_nonneg _ (by omega)
      have hL1 : Lg ≤ (T.size : Int) - A := by have := Int.emod_lt_of_pos pl (show (0 : Int) < (T.size : Int) - A + 1 by omega); omega
      have w64a : wrap64 ((T.size : Int) - A) = (T.size : Int) - A := IntWalk.wrap64_in _ (by omega)
      have w64b : wrap64 ((T.size : Int) - A + 1) = (T.size : Int) - A + 1 := IntWalk.wrap64_in _ (by omega)
      obtain ⟨E, hE⟩ : ∃ E, A + Lg = E := ⟨_, rfl⟩
      have w64c : wrap64 (A + Lg) = E := by rw [hE]; exact IntWalk.wrap64_in _ (by omega)
      have dd1 : ((T.size : Int) - A + 1 == 0) = false := by rw [beq_eq_false_iff_ne]; omega
      have hE0 : A ≤ E := by omega
      have hE1 : E ≤ (T.size : Int) := by omega
      have vA : IntKind.u64.wrap A = A := IntWalk.u64_in _ (by omega)
      obtain ⟨D, hD⟩ : ∃ D, T.extract A.toNat E.toNat = D := ⟨_, rfl⟩
      obtain ⟨f, hf⟩ : ∃ f, (E == (T.size : Int)) = f := ⟨_, rfl⟩
      obtain ⟨F, hF⟩ : ∃ F, (if f then E else fin) = F := ⟨_, rfl⟩
      obtain ⟨KN, hKN⟩ : ∃ K, (kn || f) = K := ⟨_, rfl⟩
      have hDz : (D.size : Int) = E - A := by rw [← hD, ByteArray.size_extract]; omega
      have KP : Hid (∀ W, RowG W (.slice a m c) T ll → Calls Try.prog 6 #[.agg #[.int .u64 rd, .slice a m c, .int .u64 fin, .bool kn], .int .u64 A, .string D, .bool f] W fun e w' => ∃ a' c' l', e = .returned (.tuple #[.agg #[.int .u64 rd, .slice a' (List.length l') c', .int .u64 F, .bool KN], .int .i64 0]) ∧ GsOk T ⟨rd, l', F, KN⟩ ∧ RowG w' (.slice a' (List.length l') c') T l' ∧ (∀ q, Blk (.slice a' (List.length l') c') q → W.heap.size ≤ q) ∧ Below W.heap.size W w') := Lib.hid (fun W h => by
        have hp := put_ok T ⟨rd, ll, fin, kn⟩ a m c A D f E W HOK.out (by omega) HM.out h hA0 (by omega) hE1 (fun h => by rw [h] at hf; simpa using hf) (fun r h1 h2 h3 _ => by
          have e1 := ext_same (T := T) (a := A.toNat) (b := E.toNat) (by omega)
          rw [hD] at e1
          exact piece_of hA0 e1 h1 h2 h3)
        simp only [hF, hKN] at hp
        refine hp.mono ?_
        rintro e w' ⟨a', c', l', q1, q2, q3, q4, q5, q6⟩
        exact ⟨a', c', l', q1, q2, q4, q5, q6⟩)
      have HAE := Lib.hid (And.intro hA0 (And.intro hE0 hE1))
      have hHd : Hid (Below wr.heap.size wr wr.drew) := Lib.hid (Below.refl _ _).drew
      have HSD := Lib.hid (HGB.out.go hHd.out)
      have HRD := Lib.hid (HROW.out.go hHd.out)
      have HE := Lib.hid hE
      clear hpc hgb hrow hnb hbb hm hok hDz hF hKN hp0 hp1 hE
      go_wp2_with fail
      try rw [hA]
      try rw [HE.out]
      clear v0 v1 pa0 pl0 kk0 kk1 hA hLg w64a w64b w64c dd1 hL0 hL1
      go_cut [12, 13] from 66 to 80 (fun v12 v13 W => ∃ (b : Nat) (ua : Option Addr) (un uc : Nat) (L : List Ran), v12 = .pointer (some ⟨b, 0, none⟩) ∧ v13 = .int .i64 0 ∧ L.length = un ∧ GsOk T ⟨rd, L, F, KN⟩ ∧ Gb W b 28 ⟨rd, L, F, KN⟩ (.slice ua un uc) ∧ RowG W (.slice ua un uc) T L ∧ (∀ q, Blk (.slice ua un uc) q → wr.heap.size ≤ q) ∧ Below wr.heap.size wr W)
      case first =>
        refine wp_region_noPanic ?_
        refine wp_region_held_drew (S := fun W : World => Below wr.drew.heap.size wr.drew W) (by kernel_rfl) ?_ (fun hHeld => ?_)
        · exact Below.refl wr.drew.heap.size wr.drew
        refine wpAnyH_take (i := 0) (v := ?_) rfl (by kernel_rfl) (by kernel_rfl) (by kernel_rfl) (fun _ _ _ h => h) (Or.inl ⟨by rfl, ?_⟩) (by assumption) ?_
        rotate_left
        · (intro w hSw; (have hSb := hSw; clear hSw; have c0 := (HSD.out.go hSb).c0; have c1 := (HSD.out.go hSb).c1; have c2 := (HSD.out.go hSb).c2; have c3 := (HSD.out.go hSb).c3; simp only at c0 c2 c3; clear hSb); go_simp; (try with_reducible rfl))
        try simp only [Act.put, List.getElem_toArray, List.getElem_cons_zero, List.getElem_cons_succ, List.setIfInBounds_toArray, List.set_cons_zero, List.set_cons_succ]
        refine wpAnyH_take (i := 1) (v := ?_) rfl (by kernel_rfl) (by kernel_rfl) (by kernel_rfl) (fun _ _ _ h => h) (Or.inl ⟨by rfl, ?_⟩) (by assumption) ?_
        rotate_left
        · (intro w hSw; (have hSb := hSw; clear hSw; have c0 := (HSD.out.go hSb).c0; have c1 := (HSD.out.go hSb).c1; have c2 := (HSD.out.go hSb).c2; have c3 := (HSD.out.go hSb).c3; simp only at c0 c2 c3; clear hSb); go_simp; (try with_reducible rfl))
        try simp only [Act.put, List.getElem_toArray, List.getElem_cons_zero, List.getElem_cons_succ, List.setIfInBounds_toArray, List.set_cons_zero, List.set_cons_succ]
        refine wpAnyH_take (i := 2) (v := ?_) rfl (by kernel_rfl) (by kernel_rfl) (by kernel_rfl) (fun _ _ _ h => h) (Or.inl ⟨by rfl, ?_⟩) (by assumption) ?_
        rotate_left
        · (intro w hSw; (have hSb := hSw; clear hSw; have c0 := (HSD.out.go hSb).c0; have c1 := (HSD.out.go hSb).c1; have c2 := (HSD.out.go hSb).c2; have c3 := (HSD.out.go hSb).c3; simp only at c0 c2 c3; clear hSb); go_simp; (try with_reducible rfl))
        try simp only [Act.put, List.getElem_toArray, List.getElem_cons_zero, List.getElem_cons_succ, List.setIfInBounds_toArray, List.set_cons_zero, List.set_cons_succ]
        refine wpAnyH_take (i := 3) (v := ?_) rfl (by kernel_rfl) (by kernel_rfl) (by kernel_rfl) (fun _ _ _ h => h) (Or.inl ⟨by rfl, ?_⟩) (by assumption) ?_
        rotate_left
        · (intro w hSw; (have hSb := hSw; clear hSw; have c0 := (HSD.out.go hSb).c0; have c1 := (HSD.out.go hSb).c1; have c2 := (HSD.out.go hSb).c2; have c3 := (HSD.out.go hSb).c3; simp only at c0 c2 c3; clear hSb); go_simp; (try with_reducible rfl))
        try simp only [Act.put, List.getElem_toArray, List.getElem_cons_zero, List.getElem_cons_succ, List.setIfInBounds_toArray, List.set_cons_zero, List.set_cons_succ]
        refine wpAnyH_take (i := 4) (v := ?_) rfl (by kernel_rfl) (by kernel_rfl) (by kernel_rfl) (fun _ _ _ h => h) (Or.inl ⟨by rfl, ?_⟩) (by assumption) ?_
        rotate_left
        · (intro w hSw; (have hSb := hSw; clear hSw; have c0 := (HSD.out.go hSb).c0; have c1 := (HSD.out.go hSb).c1; have c2 := (HSD.out.go hSb).c2; have c3 := (HSD.out.go hSb).c3; simp only at c0 c2 c3; clear hSb); go_simp; (try with_reducible rfl))
        try simp only [Act.put, List.getElem_toArray, List.getElem_cons_zero, List.getElem_cons_succ, List.setIfInBounds_toArray, List.set_cons_zero, List.set_cons_succ]
        refine wpAnyH_take (i := 5) (v := ?_) rfl (by kernel_rfl) (by kernel_rfl) (by kernel_rfl) (fun _ _ _ h => h) (Or.inl ⟨by rfl, ?_⟩) (by assumption) ?_
        rotate_left
        · (intro w hSw; (have hSb := hSw; clear hSw; have c0 := (HSD.out.go hSb).c0; have c1 := (HSD.out.go hSb).c1; have c2 := (HSD.out.go hSb).c2; have c3 := (HSD.out.go hSb).c3; simp only at c0 c2 c3; clear hSb); go_simp; (try with_reducible rfl))
        try simp only [Act.put, List.getElem_toArray, List.getElem_cons_zero, List.getElem_cons_succ, List.setIfInBounds_toArray, List.set_cons_zero, List.set_cons_succ]
        refine wpAnyH_take (i := 6) (v := ?_) rfl (by kernel_rfl) (by kernel_rfl) (by kernel_rfl) (fun _ _ _ h => h) (Or.inl ⟨by rfl, ?_⟩) (by assumption) ?_
        rotate_left
        · (intro w hSw; (have hSb := hSw; clear hSw; have c0 := (HSD.out.go hSb).c0; have c1 := (HSD.out.go hSb).c1; have c2 := (HSD.out.go hSb).c2; have c3 := (HSD.out.go hSb).c3; simp only at c0 c2 c3; clear hSb); go_simp; (try with_reducible rfl))
        try simp only [Act.put, List.getElem_toArray, List.getElem_cons_zero, List.getElem_cons_succ, List.setIfInBounds_toArray, List.set_cons_zero, List.set_cons_succ]
        refine wpAnyH_take (i := 7) (v := ?_) rfl (by kernel_rfl) (by kernel_rfl) (by kernel_rfl) (fun _ _ _ h => h) (Or.inl ⟨by rfl, ?_⟩) (by assumption) ?_
        rotate_left
        · (intro w hSw; (have hSb := hSw; clear hSw; have c0 := (HSD.out.go hSb).c0; have c1 := (HSD.out.go hSb).c1; have c2 := (HSD.out.go hSb).c2; have c3 := (HSD.out.go hSb).c3; simp only at c0 c2 c3; clear hSb); go_simp; (try with_reducible rfl))
        try simp only [Act.put, List.getElem_toArray, List.getElem_cons_zero, List.getElem_cons_succ, List.setIfInBounds_toArray, List.set_cons_zero, List.set_cons_succ]
        refine wpAnyH_take (i := 8) (v := ?_) rfl (by kernel_rfl) (by kernel_rfl) (by kernel_rfl) (fun _ _ _ h => h) (Or.inl ⟨by rfl, ?_⟩) (by assumption) ?_
        rotate_left
        · (intro w hSw; (have hSb := hSw; clear hSw; have c0 := (HSD.out.go hSb).c0; have c1 := (HSD.out.go hSb).c1; have c2 := (HSD.out.go hSb).c2; have c3 := (HSD.out.go hSb).c3; simp only at c0 c2 c3; clear hSb); go_simp; (try with_reducible rfl))
        try simp only [Act.put, List.getElem_toArray, List.getElem_cons_zero, List.getElem_cons_succ, List.setIfInBounds_toArray, List.set_cons_zero, List.set_cons_succ]
        refine wpAnyH_take (i := 9) (v := ?_) rfl (by kernel_rfl) (by kernel_rfl) (by kernel_rfl) (fun _ _ _ h => h) (Or.inl ⟨by rfl, ?_⟩) (by assumption) ?_
        rotate_left
        · (intro w hSw; (have hSb := hSw; clear hSw; have c0 := (HSD.out.go hSb).c0; have c1 := (HSD.out.go hSb).c1; have c2 := (HSD.out.go hSb).c2; have c3 := (HSD.out.go hSb).c3; simp only at c0 c2 c3; clear hSb); go_simp; (try with_reducible rfl))
        try simp only [Act.put, List.getElem_toArray, List.getElem_cons_zero, List.getElem_cons_succ, List.setIfInBounds_toArray, List.set_cons_zero, List.set_cons_succ]
        refine wpAnyH_take (i := 10) (v := ?_) rfl (by kernel_rfl) (by kernel_rfl) (by kernel_rfl) (fun _ _ _ h => h) (Or.inl ⟨by rfl, ?_⟩) (by assumption) ?_
        rotate_left
        · (intro w hSw; (have hSb := hSw; clear hSw; have c0 := (HSD.out.go hSb).c0; have c1 := (HSD.out.go hSb).c1; have c2 := (HSD.out.go hSb).c2; have c3 := (HSD.out.go hSb).c3; simp only at c0 c2 c3; clear hSb); go_simp; (try with_reducible rfl))
        try simp only [Act.put, List.getElem_toArray, List.getElem_cons_zero, List.getElem_cons_succ, List.setIfInBounds_toArray, List.set_cons_zero, List.set_cons_succ]
        refine wpAnyH_ready (rs := [11, 15]) (by kernel_rfl) (by simp) ?_
        refine AllReadyH.cons rfl (fun K hK => ?_) (AllReadyH.cons rfl (fun K hK => ?_) AllReadyH.nil)
        · rw [if_pos (by rfl)]
          go_simp
          with_reducible refine (KP.out wr.drew (HRD.out.go (Below.refl _ _))).mono ?_
          rintro e w3 ⟨ua, uc, L, rfl, hok, hr, hq, hb⟩
          obtain ⟨un, hun⟩ : ∃ n, L.length = n := ⟨_, rfl⟩
          rw [hun] at hr hq
          try simp only [hun]
          have HUN := Lib.hid hun
          have HOKL := Lib.hid hok
          have HQ : Hid (∀ q, Blk (.slice ua un uc) q → wr.heap.size ≤ q) := Lib.hid (fun q h => Nat.le_trans (by simp) (hq q h))
          clear hun hok
          have HR3 := Lib.hid hr
          have HB3 := Lib.hid hb
          have HNB : Hid (¬ Blk (.slice ua un uc) w3.heap.size) := Lib.hid (fun h => by have := hr.blk h; omega)
          clear hr hq hb
          refine hK.out _ _ ?_ (fun hHeld => ?_)
          · exact HB3.out
          clear hK K
          try simp only [Act.put, List.getElem_toArray, List.getElem_cons_zero, List.getElem_cons_succ, List.setIfInBounds_toArray, List.set_cons_zero, List.set_cons_succ]
          refine wpAnyH_take (i := 12) (v := ?_) rfl (by kernel_rfl) (by kernel_rfl) (by kernel_rfl) (fun _ _ _ h => h) (Or.inl ⟨by rfl, ?_⟩) (by assumption) ?_
          rotate_left
          · (intro w hSw; (have hSb := hSw; clear hSw; have c0 := (HSD.out.go hSb).c0; have c1 := (HSD.out.go hSb).c1; have c2 := (HSD.out.go hSb).c2; have c3 := (HSD.out.go hSb).c3; simp only at c0 c2 c3; clear hSb); go_simp; (try with_reducible rfl))
          try simp only [Act.put, List.getElem_toArray, List.getElem_cons_zero, List.getElem_cons_succ, List.setIfInBounds_toArray, List.set_cons_zero, List.set_cons_succ]
          refine wpAnyH_take (i := 13) (v := ?_) rfl (by kernel_rfl) (by kernel_rfl) (by kernel_rfl) (fun _ _ _ h => h) (Or.inl ⟨by rfl, ?_⟩) (by assumption) ?_
          rotate_left
          · (intro w hSw; (have hSb := hSw; clear hSw; have c0 := (HSD.out.go hSb).c0; have c1 := (HSD.out.go hSb).c1; have c2 := (HSD.out.go hSb).c2; have c3 := (HSD.out.go hSb).c3; simp only at c0 c2 c3; clear hSb); go_simp; (try with_reducible rfl))
          try simp only [Act.put, List.getElem_toArray, List.getElem_cons_zero, List.getElem_cons_succ, List.setIfInBounds_toArray, List.set_cons_zero, List.set_cons_succ]
          refine wpAnyH_take (i := 14) (v := ?_) rfl (by kernel_rfl) (by kernel_rfl) (by kernel_rfl) (fun _ _ _ h => h) (Or.inl ⟨by rfl, ?_⟩) (by assumption) ?_
          rotate_left
          · (intro w hSw; (have hSb := hSw; clear hSw; have c0 := (HSD.out.go hSb).c0; have c1 := (HSD.out.go hSb).c1; have c2 := (HSD.out.go hSb).c2; have c3 := (HSD.out.go hSb).c3; simp only at c0 c2 c3; clear hSb); go_simp; (try with_reducible rfl))
          try simp only [Act.put, List.getElem_toArray, List.getElem_cons_zero, List.getElem_cons_succ, List.setIfInBounds_toArray, List.set_cons_zero, List.set_cons_succ]
          refine wpAnyH_ready (rs := [15]) (by kernel_rfl) (by simp) ?_
          refine AllReadyH.cons rfl (fun K hK => ?_) AllReadyH.nil
          rw [if_pos (by rfl)]
          go_simp
          refine hK.out _ _ ?_ (fun hHeld => ?_)
          · exact HB3.out.alloc HB3.out.size _
          clear hK K
          try simp only [Act.put, List.getElem_toArray, List.getElem_cons_zero, List.getElem_cons_succ, List.setIfInBounds_toArray, List.set_cons_zero, List.set_cons_succ]
          refine wpAnyH_ready (rs := [16]) (by kernel_rfl) (by simp) ?_
          refine AllReadyH.cons rfl (fun K hK => ?_) AllReadyH.nil
          rw [if_pos (by rfl)]
          go_simp
          refine hK.out _ _ ?_ (fun hHeld => ?_)
          · exact HB3.out.alloc HB3.out.size _
          clear hK K
          try simp only [Act.put, List.getElem_toArray, List.getElem_cons_zero, List.getElem_cons_succ, List.setIfInBounds_toArray, List.set_cons_zero, List.set_cons_succ]
          refine wpAnyH_take (i := 17) (v := ?_) rfl (by kernel_rfl) (by kernel_rfl) (by kernel_rfl) (fun _ _ _ h => h) (Or.inl ⟨by rfl, ?_⟩) (by assumption) ?_
          rotate_left
          · (intro w hSw; (have hSb := hSw; clear hSw; have c0 := (HSD.out.go hSb).c0; have c1 := (HSD.out.go hSb).c1; have c2 := (HSD.out.go hSb).c2; have c3 := (HSD.out.go hSb).c3; simp only at c0 c2 c3; clear hSb); go_simp; (try with_reducible rfl))
          try simp only [Act.put, List.getElem_toArray, List.getElem_cons_zero, List.getElem_cons_succ, List.setIfInBounds_toArray, List.set_cons_zero, List.set_cons_succ]
          refine wpAnyH_done (by kernel_rfl) (NoPanic.normal ?_) _
          go_wp2_with fail
          go_meet
          case rel => exact ⟨_, ua, un, uc, L, rfl, rfl, HUN.out, HOKL.out, heap_alloc_new w3 _, HR3.out.go ((Below.refl _ _).alloc (Nat.le_refl _) _), HQ.out, hHd.out.trans hHeld⟩
        · rw [if_pos (by rfl)]
          go_simp
          refine hK.out _ _ ?_ (fun hHeld => ?_)
          · exact (Below.refl wr.drew.heap.size wr.drew).alloc (Nat.le_refl _) _
          clear hK K
          try simp only [Act.put, List.getElem_toArray, List.getElem_cons_zero, List.getElem_cons_succ, List.setIfInBounds_toArray, List.set_cons_zero, List.set_cons_succ]
          refine wpAnyH_ready (rs := [11]) (by kernel_rfl) (by simp) ?_
          refine AllReadyH.cons rfl (fun K hK => ?_) AllReadyH.nil
          rw [if_pos (by rfl)]
          go_simp
          refine (KP.out (wr.drew.alloc (.cells #[.int .u64 0, .slice none 0 0, .int .u64 0, .bool false] 28)) (HRD.out.go ((Below.refl _ _).alloc (Nat.le_refl _) _))).mono ?_
          rintro e w3 ⟨ua, uc, L, rfl, hok, hr, hq, hb⟩
          obtain ⟨un, hun⟩ : ∃ n, L.length = n := ⟨_, rfl⟩
          rw [hun] at hr hq
          try simp only [hun]
          have HUN := Lib.hid hun
          have HOKL := Lib.hid hok
          have HQ : Hid (∀ q, Blk (.slice ua un uc) q → wr.heap.size ≤ q) := Lib.hid (fun q h => Nat.le_trans (by simp) (hq q h))
          clear hun hok
          have HR3 := Lib.hid hr
          have HB3 := Lib.hid (nextG ((Below.refl wr.drew.heap.size wr.drew).alloc (Nat.le_refl _) (.cells #[.int .u64 0, .slice none 0 0, .int .u64 0, .bool false] 28)) hb)
          have HZ : Hid (Gb w3 wr.heap.size 28 ⟨0, [], 0, false⟩ (.slice none 0 0)) := Lib.hid ((hb.block wr.heap.size (by simp)).trans (heap_alloc_new wr.drew (.cells #[.int .u64 0, .slice none 0 0, .int .u64 0, .bool false] 28)))
          have HNB : Hid (¬ Blk (.slice ua un uc) wr.heap.size) := Lib.hid (fun h => by have h5 := hq _ h; rw [World.size_alloc] at h5; exact absurd h5 (Nat.not_succ_le_self _))
          have z0 : w3.cell? ⟨wr.heap.size, 0, none⟩ = _ := Lib.cell_of_heap HZ.out 0
          have z1 : w3.cell? ⟨wr.heap.size, 1, none⟩ = _ := Lib.cell_of_heap HZ.out 1
          have z2 : w3.cell? ⟨wr.heap.size, 2, none⟩ = _ := Lib.cell_of_heap HZ.out 2
          have z3 : w3.cell? ⟨wr.heap.size, 3, none⟩ = _ := Lib.cell_of_heap HZ.out 3
          have zf : ∀ k, w3.frozen? ⟨wr.heap.size, k, none⟩ = false := fun k => Lib.frozen_of_heap HZ.out k
          clear hr hq hb
          refine hK.out _ _ ?_ (fun hHeld => ?_)
          · exact HB3.out
          clear hK K
          try simp only [Act.put, List.getElem_toArray, List.getElem_cons_zero, List.getElem_cons_succ, List.setIfInBounds_toArray, List.set_cons_zero, List.set_cons_succ]
          refine wpAnyH_take (i := 12) (v := ?_) rfl (by kernel_rfl) (by kernel_rfl) (by kernel_rfl) (fun _ _ _ h => h) (Or.inl ⟨by rfl, ?_⟩) (by assumption) ?_
          rotate_left
          · (intro w hSw; (have hSb := hSw; clear hSw; have c0 := (HSD.out.go hSb).c0; have c1 := (HSD.out.go hSb).c1; have c2 := (HSD.out.go hSb).c2; have c3 := (HSD.out.go hSb).c3; simp only at c0 c2 c3; clear hSb); go_simp; (try with_reducible rfl))
          try simp only [Act.put, List.getElem_toArray, List.getElem_cons_zero, List.getElem_cons_succ, List.setIfInBounds_toArray, List.set_cons_zero, List.set_cons_succ]
          refine wpAnyH_take (i := 13) (v := ?_) rfl (by kernel_rfl) (by kernel_rfl) (by kernel_rfl) (fun _ _ _ h => h) (Or.inl ⟨by rfl, ?_⟩) (by assumption) ?_
          rotate_left
          · (intro w hSw; (have hSb := hSw; clear hSw; have c0 := (HSD.out.go hSb).c0; have c1 := (HSD.out.go hSb).c1; have c2 := (HSD.out.go hSb).c2; have c3 := (HSD.out.go hSb).c3; simp only at c0 c2 c3; clear hSb); go_simp; (try with_reducible rfl))
          try simp only [Act.put, List.getElem_toArray, List.getElem_cons_zero, List.getElem_cons_succ, List.setIfInBounds_toArray, List.set_cons_zero, List.set_cons_succ]
          refine wpAnyH_take (i := 14) (v := ?_) rfl (by kernel_rfl) (by kernel_rfl) (by kernel_rfl) (fun _ _ _ h => h) (Or.inl ⟨by rfl, ?_⟩) (by assumption) ?_
          rotate_left
          · (intro w hSw; (have hSb := hSw; clear hSw; have c0 := (HSD.out.go hSb).c0; have c1 := (HSD.out.go hSb).c1; have c2 := (HSD.out.go hSb).c2; have c3 := (HSD.out.go hSb).c3; simp only at c0 c2 c3; clear hSb); go_simp; (try with_reducible rfl))
          try simp only [Act.put, List.getElem_toArray, List.getElem_cons_zero, List.getElem_cons_succ, List.setIfInBounds_toArray, List.set_cons_zero, List.set_cons_succ]
          refine wpAnyH_ready (rs := [16]) (by kernel_rfl) (by simp) ?_
          refine AllReadyH.cons rfl (fun K hK => ?_) AllReadyH.nil
          rw [if_pos (by rfl)]
          go_simp
          refine hK.out _ _ ?_ (fun hHeld => ?_)
          · exact below_put4 HB3.out (g := wr.heap.size) (Nat.le_refl _) (.int .u64 rd) (.slice ua un uc) (.int .u64 F) (.bool KN)
          clear hK K
          try simp only [Act.put, List.getElem_toArray, List.getElem_cons_zero, List.getElem_cons_succ, List.setIfInBounds_toArray, List.set_cons_zero, List.set_cons_succ]
          refine wpAnyH_take (i := 17) (v := ?_) rfl (by kernel_rfl) (by kernel_rfl) (by kernel_rfl) (fun _ _ _ h => h) (Or.inl ⟨by rfl, ?_⟩) (by assumption) ?_
          rotate_left
          · (intro w hSw; (have hSb := hSw; clear hSw; have c0 := (HSD.out.go hSb).c0; have c1 := (HSD.out.go hSb).c1; have c2 := (HSD.out.go hSb).c2; have c3 := (HSD.out.go hSb).c3; simp only at c0 c2 c3; clear hSb); go_simp; (try with_reducible rfl))
          try simp only [Act.put, List.getElem_toArray, List.getElem_cons_zero, List.getElem_cons_succ, List.setIfInBounds_toArray, List.set_cons_zero, List.set_cons_succ]
          refine wpAnyH_done (by kernel_rfl) (NoPanic.normal ?_) _
          go_wp2_with fail
          go_meet
          case rel => exact ⟨_, ua, un, uc, L, rfl, rfl, HUN.out, HOKL.out, HZ.out.put ⟨rd, L, F, KN⟩ (.slice ua un uc), HR3.out.put4 HNB.out (.int .u64 rd) (.slice ua un uc) (.int .u64 F) (.bool KN), HQ.out, hHd.out.trans hHeld⟩
      case rest =>
        obtain ⟨b, ua, un, uc, L, rfl, rfl, hLn, hokL, hgbL, hrL, hqL, hbL⟩ := hcut
        have HUN := Lib.hid hLn
        have HOKL := Lib.hid hokL
        have HSG := Lib.hid (HGB.out.go hbL)
        have HB1 := Lib.hid (HBB.out.trans (hbL.mono HBB.out.size))
        have hgb2 : g < wr.heap.size := hgl
        have HNG : Hid (¬ Blk (.slice ua un uc) g) := Lib.hid (fun h => by have := hqL g h; omega)
        have HSF := Lib.hid (HSG.out.put ⟨rd, L, F, KN⟩ (.slice ua un uc))
        have HRF := Lib.hid (hrL.put4 HNG.out (.int .u64 rd) (.slice ua un uc) (.int .u64 F) (.bool KN))
        have HBF := Lib.hid (below_put4 HB1.out (g := g) hg0 (.int .u64 rd) (.slice ua un uc) (.int .u64 F) (.bool KN))
        have HGL := Lib.hid hgbL
        simp only at HSF
        have y0 := hgbL.c0
        have y1 := hgbL.c1
        have y2 := hgbL.c2
        have y3 := hgbL.c3
        simp only at y0 y2 y3
        have z0 := HSG.out.c0
        have z1 := HSG.out.c1
        have z2 := HSG.out.c2
        have z3 := HSG.out.c3
        simp only at z0 z2 z3
        have zf := HSG.out.fz
        have hgwc : g < wc.heap.size := HSG.out.lt
        clear hLn hokL hgbL hrL hqL hbL HSD HRD KP
        by_cases h2 : (k : Int) < (n2 : Int)
        · obtain ⟨qb, qo, te, htc, htw⟩ := HZ.out.2 k (by omega)
          subst te
          generalize zt.getD k 0 = x at htc htw
          simp only [Lit.wf, Bool.and_eq_true, decide_eq_true_eq] at htw
          have x0 : 0 ≤ x := htw.1
          have x1 : x ≤ 255 := htw.2
          have HKX0 := Lib.hid htc
          clear htc htw
          go_upto_region 14 with (fail)
          generalize ((((wc.setCell ⟨g, 0, none⟩ (.int .u64 rd)).setCell ⟨g, 1, none⟩ (.slice ua un uc)).setCell ⟨g, 2, none⟩ (.int .u64 F)).setCell ⟨g, 3, none⟩ (.bool KN)) = W6 at *
          clear y0 y1 y2 y3 z0 z1 z2 z3 zf hgwc
          have HT0 := Lib.hid hTI
          obtain ⟨M, hM⟩ : ∃ M, tk ⟨rd, L, F, KN⟩ x = M := ⟨_, rfl⟩
          have hrr := rdy_range HOKL.out
          have hM0 : 0 ≤ M ∧ M ≤ rdy ⟨rd, L, F, KN⟩ := by rw [← hM]; unfold tk; omega
          have HOK2 := Lib.hid (take_ok HOKL.out hM0.1 hM0.2).1
          unfold takeS at HOK2
          obtain ⟨rd2, hrd2⟩ : ∃ r, rd + M = r := ⟨_, rfl⟩
          obtain ⟨L2, hL2⟩ : ∃ r, dropL ⟨rd, L, F, KN⟩ M = r := ⟨_, rfl⟩
          obtain ⟨D2, hD2⟩ : ∃ r, T.extract rd.toNat rd2.toNat = r := ⟨_, rfl⟩
          obtain ⟨AL, hAL⟩ : ∃ r, (KN && decide (F = rd2)) = r := ⟨_, rfl⟩
          obtain ⟨tn, htn⟩ : ∃ r, L2.length = r := ⟨_, rfl⟩
          simp only at HOK2 hM0 hrr
          rw [hrd2, hL2] at HOK2
          have KT : Hid (∀ W, RowG W (.slice ua un uc) T L → Calls Try.prog 7 #[.agg #[.int .u64 rd, .slice ua un uc, .int .u64 F, .bool KN], .int .i64 x] W fun e w' => ∃ a' c', e = .returned (.tuple #[.agg #[.int .u64 rd2, .slice a' tn c', .int .u64 F, .bool KN], .string D2, .bool AL]) ∧ RowG w' (.slice a' tn c') T L2 ∧ (∀ q, Blk (.slice a' tn c') q → W.heap.size ≤ q) ∧ Below W.heap.size W w') := Lib.hid (fun W h => by
            have hp := take_any T ⟨rd, L, F, KN⟩ ua un uc x W HOKL.out (by omega) HUN.out h
            rw [hM] at hp
            simp only [hL2, hrd2, hD2, hAL, htn] at hp
            exact hp)
          have r0' : 0 ≤ rd2 := HOK2.out.r0
          have r1' : rd2 ≤ (T.size : Int) := HOK2.out.r1
          obtain ⟨G2, hG2⟩ : ∃ r, T.extract 0 rd2.toNat = r := ⟨_, rfl⟩
          have HG2 := Lib.hid hG2
          have HGZ2 : Hid ((G2.size : Int) = rd2) := Lib.hid (by rw [← hG2, ext_size (by omega)]; omega)
          have HAPP : Hid (G ++ D2 = G2) := Lib.hid (by rw [← HG.out, ← hD2, ← hG2]; exact ext_app (by omega))
          have HDZ : Hid (¬ 9223372036854775807 < G.size + D2.size) := Lib.hid (by
            have h1 := HGZ.out
            have h2 : D2.size ≤ 250 := by rw [← hD2, ByteArray.size_extract]; omega
            omega)
          have HALL : Hid (AL = (KN && (rd2 == (T.size : Int)))) := Lib.hid (by
            rw [← hAL]
            cases hk : KN with
            | false => rfl
            | true =>
              have h1 := HOK2.out.kn hk
              simp only at h1
              rw [h1]
              by_cases e : rd2 = (T.size : Int)
              · simp [e]
              · simp [e, Ne.symm e])
          have HUN2 := Lib.hid htn
          have hHd2 : Hid (Below W6.heap.size W6 W6.drew) := Lib.hid (Below.refl _ _).drew
          have HSD2 := Lib.hid (HSF.out.go hHd2.out)
          have HRD2 := Lib.hid (HRF.out.go hHd2.out)
          have HKX : Hid (∀ W, Below W6.drew.heap.size W6.drew W → W.cell? ⟨qb, qo + k, none⟩ = some (.int .u8 x)) := Lib.hid (fun W h => HKX0.out W (HBF.out.trans ((hHd2.out.trans h).mono HBF.out.size)))
          have vx : IntKind.i64.wrap x = x := IntWalk.i64_in _ (by omega)
          clear hM hrr hM0 hL2 hD2 hAL htn hG2 hrd2
          go_wp2_with fail
          go_cut [14, 15, 16] from 88 to 98 (fun v14 v15 v16 W => ∃ (b : Nat) (ta : Option Addr) (tc : Nat), v14 = .pointer (some ⟨b, 0, none⟩) ∧ v15 = .string D2 ∧ v16 = .bool AL ∧ Gb W b 28 ⟨rd2, L2, F, KN⟩ (.slice ta tn tc) ∧ RowG W (.slice ta tn tc) T L2 ∧ (∀ q, Blk (.slice ta tn tc) q → W6.heap.size ≤ q) ∧ Below W6.heap.size W6 W)
          case first =>
            refine wp_region_noPanic ?_
            refine wp_region_held_drew (S := fun W : World => Below W6.drew.heap.size W6.drew W) (by kernel_rfl) ?_ (fun hHeld => ?_)
            · exact Below.refl W6.drew.heap.size W6.drew
            refine wpAnyH_take (i := 0) (v := ?_) rfl (by kernel_rfl) (by kernel_rfl) (by kernel_rfl) (fun _ _ _ h => h) (Or.inl ⟨by rfl, ?_⟩) (by assumption) ?_
            rotate_left
            · (intro w hSw; (have hSb := hSw; clear hSw; have c0 := (HSD2.out.go hSb).c0; have c1 := (HSD2.out.go hSb).c1; have c2 := (HSD2.out.go hSb).c2; have c3 := (HSD2.out.go hSb).c3; simp only at c0 c2 c3; have kx := HKX.out _ hSb; clear hSb); go_simp; (try with_reducible rfl))
            try simp only [Act.put, List.getElem_toArray, List.getElem_cons_zero, List.getElem_cons_succ, List.setIfInBounds_toArray, List.set_cons_zero, List.set_cons_succ]
            refine wpAnyH_take (i := 1) (v := ?_) rfl (by kernel_rfl) (by kernel_rfl) (by kernel_rfl) (fun _ _ _ h => h) (Or.inl ⟨by rfl, ?_⟩) (by assumption) ?_
            rotate_left
            · (intro w hSw; (have hSb := hSw; clear hSw; have c0 := (HSD2.out.go hSb).c0; have c1 := (HSD2.out.go hSb).c1; have c2 := (HSD2.out.go hSb).c2; have c3 := (HSD2.out.go hSb).c3; simp only at c0 c2 c3; have kx := HKX.out _ hSb; clear hSb); go_simp; (try with_reducible rfl))
            try simp only [Act.put, List.getElem_toArray, List.getElem_cons_zero, List.getElem_cons_succ, List.setIfInBounds_toArray, List.set_cons_zero, List.set_cons_succ]
            refine wpAnyH_take (i := 2) (v := ?_) rfl (by kernel_rfl) (by kernel_rfl) (by kernel_rfl) (fun _ _ _ h => h) (Or.inl ⟨by rfl, ?_⟩) (by assumption) ?_
            rotate_left
            · (intro w hSw; (have hSb := hSw; clear hSw; have c0 := (HSD2.out.go hSb).c0; have c1 := (HSD2.out.go hSb).c1; have c2 := (HSD2.out.go hSb).c2; have c3 := (HSD2.out.go hSb).c3; simp only at c0 c2 c3; have kx := HKX.out _ hSb; clear hSb); go_simp; (try with_reducible rfl))
            try simp only [Act.put, List.getElem_toArray, List.getElem_cons_zero, List.getElem_cons_succ, List.setIfInBounds_toArray, List.set_cons_zero, List.set_cons_succ]
            refine wpAnyH_take (i := 3) (v := ?_) rfl (by kernel_rfl) (by kernel_rfl) (by kernel_rfl) (fun _ _ _ h => h) (Or.inl ⟨by rfl, ?_⟩) (by assumption) ?_
            rotate_left
            · (intro w hSw; (have hSb := hSw; clear hSw; have c0 := (HSD2.out.go hSb).c0; have c1 := (HSD2.out.go hSb).c1; have c2 := (HSD2.out.go hSb).c2; have c3 := (HSD2.out.go hSb).c3; simp only at c0 c2 c3; have kx := HKX.out _ hSb; clear hSb); go_simp; (try with_reducible rfl))
            try simp only [Act.put, List.getElem_toArray, List.getElem_cons_zero, List.getElem_cons_succ, List.setIfInBounds_toArray, List.set_cons_zero, List.set_cons_succ]
            refine wpAnyH_take (i := 4) (v := ?_) rfl (by kernel_rfl) (by kernel_rfl) (by kernel_rfl) (fun _ _ _ h => h) (Or.inl ⟨by rfl, ?_⟩) (by assumption) ?_
            rotate_left
            · (intro w hSw; (have hSb := hSw; clear hSw; have c0 := (HSD2.out.go hSb).c0; have c1 := (HSD2.out.go hSb).c1; have c2 := (HSD2.out.go hSb).c2; have c3 := (HSD2.out.go hSb).c3; simp only at c0 c2 c3; have kx := HKX.out _ hSb; clear hSb); go_simp; (try with_reducible rfl))
            try simp only [Act.put, List.getElem_toArray, List.getElem_cons_zero, List.getElem_cons_succ, List.setIfInBounds_toArray, List.set_cons_zero, List.set_cons_succ]
            refine wpAnyH_take (i := 5) (v := ?_) rfl (by kernel_rfl) (by kernel_rfl) (by kernel_rfl) (fun _ _ _ h => h) (Or.inl ⟨by rfl, ?_⟩) (by assumption) ?_
            rotate_left
            · (intro w hSw; (have hSb := hSw; clear hSw; have c0 := (HSD2.out.go hSb).c0; have c1 := (HSD2.out.go hSb).c1; have c2 := (HSD2.out.go hSb).c2; have c3 := (HSD2.out.go hSb).c3; simp only at c0 c2 c3; have kx := HKX.out _ hSb; clear hSb); go_simp; (try with_reducible rfl))
            try simp only [Act.put, List.getElem_toArray, List.getElem_cons_zero, List.getElem_cons_succ, List.setIfInBounds_toArray, List.set_cons_zero, List.set_cons_succ]
            refine wpAnyH_ready (rs := [6, 11]) (by kernel_rfl) (by simp) ?_
            refine AllReadyH.cons rfl (fun K hK => ?_) (AllReadyH.cons rfl (fun K hK => ?_) AllReadyH.nil)
            · rw [if_pos (by rfl)]
              go_simp
              with_reducible refine (KT.out W6.drew (HRD2.out.go (Below.refl _ _))).mono ?_
              rintro e w3 ⟨ta, tc, rfl, hr, hq, hb⟩
              have HQ : Hid (∀ q, Blk (.slice ta tn tc) q → W6.heap.size ≤ q) := Lib.hid (fun q h => Nat.le_trans (by simp) (hq q h))
              have HR3 := Lib.hid hr
              have HB3 := Lib.hid hb
              have HNB : Hid (¬ Blk (.slice ta tn tc) w3.heap.size) := Lib.hid (fun h => by have := hr.blk h; omega)
              clear hr hq hb
              refine hK.out _ _ ?_ (fun hHeld => ?_)
              · exact HB3.out
              clear hK K
              try simp only [Act.put, List.getElem_toArray, List.getElem_cons_zero, List.getElem_cons_succ, List.setIfInBounds_toArray, List.set_cons_zero, List.set_cons_succ]
              refine wpAnyH_take (i := 7) (v := ?_) rfl (by kernel_rfl) (by kernel_rfl) (by kernel_rfl) (fun _ _ _ h => h) (Or.inl ⟨by rfl, ?_⟩) (by assumption) ?_
              rotate_left
              · (intro w hSw; (have hSb := hSw; clear hSw; have c0 := (HSD2.out.go hSb).c0; have c1 := (HSD2.out.go hSb).c1; have c2 := (HSD2.out.go hSb).c2; have c3 := (HSD2.out.go hSb).c3; simp only at c0 c2 c3; have kx := HKX.out _ hSb; clear hSb); go_simp; (try with_reducible rfl))
              try simp only [Act.put, List.getElem_toArray, List.getElem_cons_zero, List.getElem_cons_succ, List.setIfInBounds_toArray, List.set_cons_zero, List.set_cons_succ]
              refine wpAnyH_take (i := 8) (v := ?_) rfl (by kernel_rfl) (by kernel_rfl) (by kernel_rfl) (fun _ _ _ h => h) (Or.inl ⟨by rfl, ?_⟩) (by assumption) ?_
              rotate_left
              · (intro w hSw; (have hSb := hSw; clear hSw; have c0 := (HSD2.out.go hSb).c0; have c1 := (HSD2.out.go hSb).c1; have c2 := (HSD2.out.go hSb).c2; have c3 := (HSD2.out.go hSb).c3; simp only at c0 c2 c3; have kx := HKX.out _ hSb; clear hSb); go_simp; (try with_reducible rfl))
              try simp only [Act.put, List.getElem_toArray, List.getElem_cons_zero, List.getElem_cons_succ, List.setIfInBounds_toArray, List.set_cons_zero, List.set_cons_succ]
              refine wpAnyH_take (i := 9) (v := ?_) rfl (by kernel_rfl) (by kernel_rfl) (by kernel_rfl) (fun _ _ _ h => h) (Or.inl ⟨by rfl, ?_⟩) (by assumption) ?_
              rotate_left
              · (intro w hSw; (have hSb := hSw; clear hSw; have c0 := (HSD2.out.go hSb).c0; have c1 := (HSD2.out.go hSb).c1; have c2 := (HSD2.out.go hSb).c2; have c3 := (HSD2.out.go hSb).c3; simp only at c0 c2 c3; have kx := HKX.out _ hSb; clear hSb); go_simp; (try with_reducible rfl))
              try simp only [Act.put, List.getElem_toArray, List.getElem_cons_zero, List.getElem_cons_succ, List.setIfInBounds_toArray, List.set_cons_zero, List.set_cons_succ]
              refine wpAnyH_take (i := 10) (v := ?_) rfl (by kernel_rfl) (by kernel_rfl) (by kernel_rfl) (fun _ _ _ h => h) (Or.inl ⟨by rfl, ?_⟩) (by assumption) ?_
              rotate_left
              · (intro w hSw; (have hSb := hSw; clear hSw; have c0 := (HSD2.out.go hSb).c0; have c1 := (HSD2.out.go hSb).c1; have c2 := (HSD2.out.go hSb).c2; have c3 := (HSD2.out.go hSb).c3; simp only at c0 c2 c3; have kx := HKX.out _ hSb; clear hSb); go_simp; (try with_reducible rfl))
              try simp only [Act.put, List.getElem_toArray, List.getElem_cons_zero, List.getElem_cons_succ, List.setIfInBounds_toArray, List.set_cons_zero, List.set_cons_succ]
              refine wpAnyH_ready (rs := [11]) (by kernel_rfl) (by simp) ?_
              refine AllReadyH.cons rfl (fun K hK => ?_) AllReadyH.nil
              rw [if_pos (by rfl)]
              go_simp
              refine hK.out _ _ ?_ (fun hHeld => ?_)
              · exact HB3.out.alloc HB3.out.size _
              clear hK K
              try simp only [Act.put, List.getElem_toArray, List.getElem_cons_zero, List.getElem_cons_succ, List.setIfInBounds_toArray, List.set_cons_zero, List.set_cons_succ]
              refine wpAnyH_ready (rs := [12]) (by kernel_rfl) (by simp) ?_
              refine AllReadyH.cons rfl (fun K hK => ?_) AllReadyH.nil
              rw [if_pos (by rfl)]
              go_simp
              refine hK.out _ _ ?_ (fun hHeld => ?_)
              · exact HB3.out.alloc HB3.out.size _
              clear hK K
              try simp only [Act.put, List.getElem_toArray, List.getElem_cons_zero, List.getElem_cons_succ, List.setIfInBounds_toArray, List.set_cons_zero, List.set_cons_succ]
              refine wpAnyH_take (i := 13) (v := ?_) rfl (by kernel_rfl) (by kernel_rfl) (by kernel_rfl) (fun _ _ _ h => h) (Or.inl ⟨by rfl, ?_⟩) (by assumption) ?_
              rotate_left
              · (intro w hSw; (have hSb := hSw; clear hSw; have c0 := (HSD2.out.go hSb).c0; have c1 := (HSD2.out.go hSb).c1; have c2 := (HSD2.out.go hSb).c2; have c3 := (HSD2.out.go hSb).c3; simp only at c0 c2 c3; have kx := HKX.out _ hSb; clear hSb); go_simp; (try with_reducible rfl))
              try simp only [Act.put, List.getElem_toArray, List.getElem_cons_zero, List.getElem_cons_succ, List.setIfInBounds_toArray, List.set_cons_zero, List.set_cons_succ]
              refine wpAnyH_take (i := 14) (v := ?_) rfl (by kernel_rfl) (by kernel_rfl) (by kernel_rfl) (fun _ _ _ h => h) (Or.inl ⟨by rfl, ?_⟩) (by assumption) ?_
              rotate_left
              · (intro w hSw; (have hSb := hSw; clear hSw; have c0 := (HSD2.out.go hSb).c0; have c1 := (HSD2.out.go hSb).c1; have c2 := (HSD2.out.go hSb).c2; have c3 := (HSD2.out.go hSb).c3; simp only at c0 c2 c3; have kx := HKX.out _ hSb; clear hSb); go_simp; (try with_reducible rfl))
              try simp only [Act.put, List.getElem_toArray, List.getElem_cons_zero, List.getElem_cons_succ, List.setIfInBounds_toArray, List.set_cons_zero, List.set_cons_succ]
              refine wpAnyH_done (by kernel_rfl) (NoPanic.normal ?_) _
              go_wp2_with fail
              go_meet
              case rel => exact ⟨_, ta, tc, rfl, rfl, rfl, heap_alloc_new w3 _, HR3.out.go ((Below.refl _ _).alloc (Nat.le_refl _) _), HQ.out, hHd2.out.trans hHeld⟩
            · rw [if_pos (by rfl)]
              go_simp
              refine hK.out _ _ ?_ (fun hHeld => ?_)
              · exact (Below.refl W6.drew.heap.size W6.drew).alloc (Nat.le_refl _) _
              clear hK K
              try simp only [Act.put, List.getElem_toArray, List.getElem_cons_zero, List.getElem_cons_succ, List.setIfInBounds_toArray, List.set_cons_zero, List.set_cons_succ]
              refine wpAnyH_ready (rs := [6]) (by kernel_rfl) (by simp) ?_
              refine AllReadyH.cons rfl (fun K hK => ?_) AllReadyH.nil
              rw [if_pos (by rfl)]
              go_simp
              refine (KT.out (W6.drew.alloc (.cells #[.int .u64 0, .slice none 0 0, .int .u64 0, .bool false] 28)) (HRD2.out.go ((Below.refl _ _).alloc (Nat.le_refl _) _))).mono ?_
              rintro e w3 ⟨ta, tc, rfl, hr, hq, hb⟩
              have HQ : Hid (∀ q, Blk (.slice ta tn tc) q → W6.heap.size ≤ q) := Lib.hid (fun q h => Nat.le_trans (by simp) (hq q h))
              have HR3 := Lib.hid hr
              have HB3 := Lib.hid (nextG ((Below.refl W6.drew.heap.size W6.drew).alloc (Nat.le_refl _) (.cells #[.int .u64 0, .slice none 0 0, .int .u64 0, .bool false] 28)) hb)
              have HZ : Hid (Gb w3 W6.heap.size 28 ⟨0, [], 0, false⟩ (.slice none 0 0)) := Lib.hid ((hb.block W6.heap.size (by simp)).trans (heap_alloc_new W6.drew (.cells #[.int .u64 0, .slice none 0 0, .int .u64 0, .bool false] 28)))
              have HNB : Hid (¬ Blk (.slice ta tn tc) W6.heap.size) := Lib.hid (fun h => by have h5 := hq _ h; rw [World.size_alloc] at h5; exact absurd h5 (Nat.not_succ_le_self _))
              have z0 : w3.cell? ⟨W6.heap.size, 0, none⟩ = _ := Lib.cell_of_heap HZ.out 0
              have z1 : w3.cell? ⟨W6.heap.size, 1, none⟩ = _ := Lib.cell_of_heap HZ.out 1
              have z2 : w3.cell? ⟨W6.heap.size, 2, none⟩ = _ := Lib.cell_of_heap HZ.out 2
              have z3 : w3.cell? ⟨W6.heap.size, 3, none⟩ = _ := Lib.cell_of_heap HZ.out 3
              have zf : ∀ k, w3.frozen? ⟨W6.heap.size, k, none⟩ = false := fun k => Lib.frozen_of_heap HZ.out k
              clear hr hq hb
              refine hK.out _ _ ?_ (fun hHeld => ?_)
              · exact HB3.out
              clear hK K
              try simp only [Act.put, List.getElem_toArray, List.getElem_cons_zero, List.getElem_cons_succ, List.setIfInBounds_toArray, List.set_cons_zero, List.set_cons_succ]
              refine wpAnyH_take (i := 7) (v := ?_) rfl (by kernel_rfl) (by kernel_rfl) (by kernel_rfl) (fun _ _ _ h => h) (Or.inl ⟨by rfl, ?_⟩) (by assumption) ?_
              rotate_left
              · (intro w hSw; (have hSb := hSw; clear hSw; have c0 := (HSD2.out.go hSb).c0; have c1 := (HSD2.out.go hSb).c1; have c2 := (HSD2.out.go hSb).c2; have c3 := (HSD2.out.go hSb).c3; simp only at c0 c2 c3; have kx := HKX.out _ hSb; clear hSb); go_simp; (try with_reducible rfl))
              try simp only [Act.put, List.getElem_toArray, List.getElem_cons_zero, List.getElem_cons_succ, List.setIfInBounds_toArray, List.set_cons_zero, List.set_cons_succ]
              refine wpAnyH_take (i := 8) (v := ?_) rfl (by kernel_rfl) (by kernel_rfl) (by kernel_rfl) (fun _ _ _ h => h) (Or.inl ⟨by rfl, ?_⟩) (by assumption) ?_
              rotate_left
              · (intro w hSw; (have hSb := hSw; clear hSw; have c0 := (HSD2.out.go hSb).c0; have c1 := (HSD2.out.go hSb).c1; have c2 := (HSD2.out.go hSb).c2; have c3 := (HSD2.out.go hSb).c3; simp only at c0 c2 c3; have kx := HKX.out _ hSb; clear hSb); go_simp; (try with_reducible rfl))
              try simp only [Act.put, List.getElem_toArray, List.getElem_cons_zero, List.getElem_cons_succ, List.setIfInBounds_toArray, List.set_cons_zero, List.set_cons_succ]
              refine wpAnyH_take (i := 9) (v := ?_) rfl (by kernel_rfl) (by kernel_rfl) (by kernel_rfl) (fun _ _ _ h => h) (Or.inl ⟨by rfl, ?_⟩) (by assumption) ?_
              rotate_left
              · (intro w hSw; (have hSb := hSw; clear hSw; have c0 := (HSD2.out.go hSb).c0; have c1 := (HSD2.out.go hSb).c1; have c2 := (HSD2.out.go hSb).c2; have c3 := (HSD2.out.go hSb).c3; simp only at c0 c2 c3; have kx := HKX.out _ hSb; clear hSb); go_simp; (try with_reducible rfl))
              try simp only [Act.put, List.getElem_toArray, List.getElem_cons_zero, List.getElem_cons_succ, List.setIfInBounds_toArray, List.set_cons_zero, List.set_cons_succ]
              refine wpAnyH_take (i := 10) (v := ?_) rfl (by kernel_rfl) (by kernel_rfl) (by kernel_rfl) (fun _ _ _ h => h) (Or.inl ⟨by rfl, ?_⟩) (by assumption) ?_
              rotate_left
              · (intro w hSw; (have hSb := hSw; clear hSw; have c0 := (HSD2.out.go hSb).c0; have c1 := (HSD2.out.go hSb).c1; have c2 := (HSD2.out.go hSb).c2; have c3 := (HSD2.out.go hSb).c3; simp only at c0 c2 c3; have kx := HKX.out _ hSb; clear hSb); go_simp; (try with_reducible rfl))
              try simp only [Act.put, List.getElem_toArray, List.getElem_cons_zero, List.getElem_cons_succ, List.setIfInBounds_toArray, List.set_cons_zero, List.set_cons_succ]
              refine wpAnyH_ready (rs := [12]) (by kernel_rfl) (by simp) ?_
              refine AllReadyH.cons rfl (fun K hK => ?_) AllReadyH.nil
              rw [if_pos (by rfl)]
              go_simp
              refine hK.out _ _ ?_ (fun hHeld => ?_)
              · exact below_put4 HB3.out (g := W6.heap.size) (Nat.le_refl _) (.int .u64 rd2) (.slice ta tn tc) (.int .u64 F) (.bool KN)
              clear hK K
              try simp only [Act.put, List.getElem_toArray, List.getElem_cons_zero, List.getElem_cons_succ, List.setIfInBounds_toArray, List.set_cons_zero, List.set_cons_succ]
              refine wpAnyH_take (i := 13) (v := ?_) rfl (by kernel_rfl) (by kernel_rfl) (by kernel_rfl) (fun _ _ _ h => h) (Or.inl ⟨by rfl, ?_⟩) (by assumption) ?_
              rotate_left
              · (intro w hSw; (have hSb := hSw; clear hSw; have c0 := (HSD2.out.go hSb).c0; have c1 := (HSD2.out.go hSb).c1; have c2 := (HSD2.out.go hSb).c2; have c3 := (HSD2.out.go hSb).c3; simp only at c0 c2 c3; have kx := HKX.out _ hSb; clear hSb); go_simp; (try with_reducible rfl))
              try simp only [Act.put, List.getElem_toArray, List.getElem_cons_zero, List.getElem_cons_succ, List.setIfInBounds_toArray, List.set_cons_zero, List.set_cons_succ]
              refine wpAnyH_take (i := 14) (v := ?_) rfl (by kernel_rfl) (by kernel_rfl) (by kernel_rfl) (fun _ _ _ h => h) (Or.inl ⟨by rfl, ?_⟩) (by assumption) ?_
              rotate_left
              · (intro w hSw; (have hSb := hSw; clear hSw; have c0 := (HSD2.out.go hSb).c0; have c1 := (HSD2.out.go hSb).c1; have c2 := (HSD2.out.go hSb).c2; have c3 := (HSD2.out.go hSb).c3; simp only at c0 c2 c3; have kx := HKX.out _ hSb; clear hSb); go_simp; (try with_reducible rfl))
              try simp only [Act.put, List.getElem_toArray, List.getElem_cons_zero, List.getElem_cons_succ, List.setIfInBounds_toArray, List.set_cons_zero, List.set_cons_succ]
              refine wpAnyH_done (by kernel_rfl) (NoPanic.normal ?_) _
              go_wp2_with fail
              go_meet
              case rel => exact ⟨_, ta, tc, rfl, rfl, rfl, HZ.out.put ⟨rd2, L2, F, KN⟩ (.slice ta tn tc), HR3.out.put4 HNB.out (.int .u64 rd2) (.slice ta tn tc) (.int .u64 F) (.bool KN), HQ.out, hHd2.out.trans hHeld⟩
          case rest =>
            obtain ⟨b2, ta, tc, rfl, rfl, rfl, hgbT, hrT, hqT, hbT⟩ := hcut
            have HSG2 := Lib.hid (HSF.out.go hbT)
            have HB2 := Lib.hid (HBF.out.trans (hbT.mono HBF.out.size))
            have hgb3 : g < W6.heap.size := HSF.out.lt
            have HNG2 : Hid (¬ Blk (.slice ta tn tc) g) := Lib.hid (fun h => by have := hqT g h; omega)
            have HSF2 := Lib.hid (HSG2.out.put ⟨rd2, L2, F, KN⟩ (.slice ta tn tc))
            have HRF2 := Lib.hid (hrT.put4 HNG2.out (.int .u64 rd2) (.slice ta tn tc) (.int .u64 F) (.bool KN))
            have HBF2 := Lib.hid (below_put4 HB2.out (g := g) hg0 (.int .u64 rd2) (.slice ta tn tc) (.int .u64 F) (.bool KN))
            simp only at HSF2
            have y0 := hgbT.c0
            have y1 := hgbT.c1
            have y2 := hgbT.c2
            have y3 := hgbT.c3
            simp only at y0 y2 y3
            have z0 := HSG2.out.c0
            have z1 := HSG2.out.c1
            have z2 := HSG2.out.c2
            have z3 := HSG2.out.c3
            simp only at z0 z2 z3
            have zf := HSG2.out.fz
            have hgwc2 := HSG2.out.lt
            clear hgbT hrT hqT hbT HSD2 HRD2 KT
            go_upto_region 17 with (fail)
            generalize ((((wc.setCell ⟨g, 0, none⟩ (.int .u64 rd2)).setCell ⟨g, 1, none⟩ (.slice ta tn tc)).setCell ⟨g, 2, none⟩ (.int .u64 F)).setCell ⟨g, 3, none⟩ (.bool KN)) = W9 at *
            clear y0 y1 y2 y3 z0 z1 z2 z3 zf hgwc2
            have happ := HAPP.out
            have hdz := HDZ.out
            rw [HALL.out]
            clear HALL
            cases KN with
            | false =>
              have hgz := HGZ2.out
              have hGG := HG2.out
              have vr : IntKind.i64.wrap rd2 = rd2 := IntWalk.i64_in _ (by omega)
              have y0 := HSF2.out.c0
              have y1 := HSF2.out.c1
              have y2 := HSF2.out.c2
              have y3 := HSF2.out.c3
              simp only at y0 y2 y3
              go_wp2_with fail
              go_roundw
              case rel => exact ⟨k + 1, ta, tc, ⟨rd2, L2, F, false⟩, by omega, by go_num, by show _ = Value.string (T.extract 0 (Int.toNat rd2)); rw [HG2.out], HOK2.out, by show Gb _ _ _ _ (.slice ta (List.length L2) tc); rw [HUN2.out]; exact HSF2.out, by show RowG _ (.slice ta (List.length L2) tc) _ _; rw [HUN2.out]; exact HRF2.out, by show ¬ Blk (.slice ta (List.length L2) tc) _; rw [HUN2.out]; exact HNG2.out, HBF2.out⟩
              case measure => simp [intOf]; omega
            | true =>
              by_cases he : rd2 = (T.size : Int)
              · have d8 : (rd2 == (T.size : Int)) = true := by rw [he]; exact beq_self_eq_true _
                replace he := Lib.hid he
                have hgz := HGZ2.out
                have hGG := HG2.out
                have vr : IntKind.i64.wrap rd2 = rd2 := IntWalk.i64_in _ (by omega)
                have y0 := HSF2.out.c0
                have y1 := HSF2.out.c1
                have y2 := HSF2.out.c2
                have y3 := HSF2.out.c3
                simp only at y0 y2 y3
                go_wp2_with fail
                go_roundw
                case rel => exact ⟨k + 1, ta, tc, ⟨rd2, L2, F, true⟩, by omega, by go_num, by show _ = Value.string (T.extract 0 (Int.toNat rd2)); rw [HG2.out], HOK2.out, by show Gb _ _ _ _ (.slice ta (List.length L2) tc); rw [HUN2.out]; exact HSF2.out, by show RowG _ (.slice ta (List.length L2) tc) _ _; rw [HUN2.out]; exact HRF2.out, by show ¬ Blk (.slice ta (List.length L2) tc) _; rw [HUN2.out]; exact HNG2.out, HBF2.out⟩
                case measure => simp [intOf]; omega
              · have d8 : (rd2 == (T.size : Int)) = false := beq_eq_false_iff_ne.2 he
                replace he := Lib.hid he
                have hgz := HGZ2.out
                have hGG := HG2.out
                have vr : IntKind.i64.wrap rd2 = rd2 := IntWalk.i64_in _ (by omega)
                have y0 := HSF2.out.c0
                have y1 := HSF2.out.c1
                have y2 := HSF2.out.c2
                have y3 := HSF2.out.c3
                simp only at y0 y2 y3
                go_wp2_with fail
                go_roundw
                case rel => exact ⟨k + 1, ta, tc, ⟨rd2, L2, F, true⟩, by omega, by go_num, by show _ = Value.string (T.extract 0 (Int.toNat rd2)); rw [HG2.out], HOK2.out, by show Gb _ _ _ _ (.slice ta (List.length L2) tc); rw [HUN2.out]; exact HSF2.out, by show RowG _ (.slice ta (List.length L2) tc) _ _; rw [HUN2.out]; exact HRF2.out, by show ¬ Blk (.slice ta (List.length L2) tc) _; rw [HUN2.out]; exact HNG2.out, HBF2.out⟩
                case measure => simp [intOf]; omega
        · go_upto_region 14 with (fail)
          generalize ((((wc.setCell ⟨g, 0, none⟩ (.int .u64 rd)).setCell ⟨g, 1, none⟩ (.slice ua un uc)).setCell ⟨g, 2, none⟩ (.int .u64 F)).setCell ⟨g, 3, none⟩ (.bool KN)) = W6 at *
          clear y0 y1 y2 y3 z0 z1 z2 z3 zf hgwc
          have hgz := HGZ.out
          have hGG := HG.out
          have vr : IntKind.i64.wrap rd = rd := IntWalk.i64_in _ (by omega)
          have y0 := HSF.out.c0
          have y1 := HSF.out.c1
          have y2 := HSF.out.c2
          have y3 := HSF.out.c3
          simp only at y0 y2 y3
          go_wp2_with fail
          go_roundw
          case rel => exact ⟨k + 1, ua, uc, ⟨rd, L, F, KN⟩, by omega, by go_num, by show _ = Value.string (T.extract 0 (Int.toNat rd)); rw [HG.out], HOKL.out, by show Gb _ _ _ _ (.slice ua (List.length L) uc); rw [HUN.out]; exact HSF.out, by show RowG _ (.slice ua (List.length L) uc) _ _; rw [HUN.out]; exact HRF.out, by show ¬ Blk (.slice ua (List.length L) uc) _; rw [HUN.out]; exact HNG.out, HBF.out⟩
          case measure => simp [intOf]; omega
    · have hnlt : ¬ (k : Int) < (n1 : Int) := by omega
      have KP2 : Hid (∀ W, RowG W (.slice a m c) T ll → Calls Try.prog 6 #[.agg #[.int .u64 rd, .slice a m c, .int .u64 fin, .bool kn], .int .u64 0, .string T, .bool true] W fun e w' => ∃ a' n' c' l', e = .returned (.tuple #[.agg #[.int .u64 rd, .slice a' n' c', .int .u64 (T.size : Int), .bool true], .int .i64 0]) ∧ GsOk T ⟨rd, l', (T.size : Int), true⟩ ∧ (∀ k, mem l' k ↔ rd ≤ k ∧ k < (T.size : Int)) ∧ List.length l' = n' ∧ RowG w' (.slice a' n' c') T l' ∧ Below W.heap.size W w') := Lib.hid (fun W h => by
        have hp := put_ok T ⟨rd, ll, fin, kn⟩ a m c 0 T true (T.size : Int) W HOK.out (by omega) HM.out h (Int.le_refl _) (by omega) (Int.le_refl _) (fun _ => rfl) (fun r h1 h2 h3 _ => piece_of (Int.le_refl _) (by rw [show (0 : Int).toNat = 0 from rfl, Nat.zero_add]; exact ext_all T) h1 h2 h3)
        refine hp.mono ?_
        rintro e w' ⟨a', c', l', rfl, q2, q3, q4, q5, q6⟩
        simp only [Bool.or_true, if_true] at q2 q3 ⊢
        refine ⟨a', _, c', l', rfl, q2, fun x => ?_, rfl, q4, q6⟩
        rw [q3]
        constructor
        · rintro (h | h)
          · obtain ⟨y, hy, j1, j2⟩ := h
            have := HOK.out.inn y hy
            simp only at this
            omega
          · omega
        · intro h
          exact .inr (by omega))
      have KT2 : Hid (∀ (a' : Option Addr) (n' c' : Nat) (l' : List Ran) W, GsOk T ⟨rd, l', (T.size : Int), true⟩ → (∀ k, mem l' k ↔ rd ≤ k ∧ k < (T.size : Int)) → List.length l' = n' → RowG W (.slice a' n' c') T l' → Calls Try.prog 7 #[.agg #[.int .u64 rd, .slice a' n' c', .int .u64 (T.size : Int), .bool true], .int .i64 1000] W fun e w' => ∃ a2 c2, e = .returned (.tuple #[.agg #[.int .u64 (T.size : Int), .slice a2 0 c2, .int .u64 (T.size : Int), .bool true], .string (T.extract rd.toNat T.size), .bool true]) ∧ Below W.heap.size W w') := Lib.hid (fun a' n' c' l' W h1 h2 h3 h4 => by
        have hp := take_any T ⟨rd, l', (T.size : Int), true⟩ a' n' c' 1000 W h1 (by omega) h3 h4
        obtain ⟨e1, e2⟩ := last_take h1 (by omega) h2
        simp only at e1 e2
        rw [e1] at hp
        simp only [e2, show rd + ((T.size : Int) - rd) = (T.size : Int) by omega, Int.toNat_natCast, List.length_nil] at hp
        refine hp.mono ?_
        rintro e w' ⟨a', c', rfl, q1, q2, q3⟩
        exact ⟨a', c', by simp, q3⟩)
      obtain ⟨D3, hD3⟩ : ∃ r, T.extract rd.toNat T.size = r := ⟨_, rfl⟩
      rw [hD3] at KT2
      have HAPP : Hid (G ++ D3 = T) := Lib.hid (by rw [← HG.out, ← hD3, ext_app (by omega), ext_all])
      have hdz : ¬ 9223372036854775807 < G.size + D3.size := by
        have h1 := HGZ.out
        have h2 : D3.size ≤ 250 := by rw [← hD3, ByteArray.size_extract]; omega
        omega
      have y0 := hgb.c0
      have y1 := hgb.c1
      have y2 := hgb.c2
      have y3 := hgb.c3
      simp only at y0 y2 y3
      clear hgb hrow hnb hbb hm hok hD3
      go_wp2_with fail
      with_reducible refine (KP2.out _ HROW.out).mono ?_
      rintro e w2 ⟨a', n', c', l', rfl, q1, q2, q3, q4, q5⟩
      have hA := (Below.refl w2.heap.size w2).alloc (Nat.le_refl _) (.cells #[.int .u64 rd, .slice a' n' c', .int .u64 (T.size : Int), .bool true] 28)
      have KT3 := Lib.hid (KT2.out a' n' c' l' _ q1 q2 q3 (q4.go hA))
      have HB2 := Lib.hid (nextG (HBB.out.trans (q5.mono HBB.out.size)) hA)
      have happ := HAPP.out
      clear q1 q2 q3 q4 q5 hA KP2 KT2 y0 y1 y2 y3 HAPP
      go_wp2_with fail
      with_reducible refine KT3.out.mono ?_
      rintro e w3 ⟨a3, c3, rfl, hb⟩
      have HB3 := Lib.hid ((nextG HB2.out hb).alloc (nextG HB2.out hb).size (.cells #[.int .u64 (T.size : Int), .slice a3 0 c3, .int .u64 (T.size : Int), .bool true] 28))
      clear hb
      go_wp2_with fail
      go_ret
      exact ⟨rfl, HB3.out⟩
theorem law_stream (T : ByteArray) (a1 : Option Addr) (n1 c1 : Nat) (l : List (Int × Int)) (a2 : Option Addr) (n2 c2 : Nat) (zt : List Int) (w : World) (hs : T.size ≤ maxLen) (hln : l.length = n1) (hm : n1 ≤ maxLen) (hl : Pcs w a1 n1 c1 l) (hz : IsRow .u8 w a2 n2 c2 zt) :
    Calls Try.prog 3 #[.string T, .slice a1 n1 c1, .slice a2 n2 c2] w fun e w' => e = .returned (.bool true) ∧ Below w.heap.size w w' := by
  by_cases h : 250 < (T.size : Int) ∨ 60 < (n1 : Int)
  · exact stream_out T a1 n1 c1 a2 n2 c2 w h
  · exact stream_law T a1 n1 c1 l a2 n2 c2 zt w (by omega) (by omega) hl (ri_of hz)
end Go.Proofs.Ytndnlpohdimgaaa.Rg
