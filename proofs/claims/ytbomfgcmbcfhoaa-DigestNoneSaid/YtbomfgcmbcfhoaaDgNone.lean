/- The walk of the law DigestNone. -/
import Derived.Test.YtbomfgcmbcfhoaaDgL
import Derived.Laws.OwnMore
import Derived.OpenShut
import Derived.Lib.AppendZeros
namespace Go.Proofs.Ytbomfgcmbcfhoaa.Dg
open Go.RowKit
set_option linter.unusedVariables false
set_option linter.unusedSimpArgs false

theorem cat_1 (s : ByteArray) : cat [s] = s.data.toList := by simp [cat]
theorem cat_none (M : Nat) : cat (List.replicate M ⟨#[]⟩) = [] := by
  induction M with
  | zero => rfl
  | succ M ih => rw [List.replicate_succ]; simp [cat]
theorem cat_last (M : Nat) (s : ByteArray) : cat (List.replicate M ⟨#[]⟩ ++ [s]) = s.data.toList := by
  have := cat_none M
  unfold cat at *
  rw [List.map_append, List.flatten_append, this]
  simp
theorem sum_one (s : ByteArray) (W : World) (hs : s.size ≤ 100000) : Calls Try.prog 10 #[.slice (some ⟨W.heap.size, 0, none⟩) 1 1] (W.alloc (.cells #[.string s] 9)) fun e w' => e = .returned (.string ⟨(sha s.data.toList).toArray⟩) ∧ Below W.heap.size W w' := by
  have hl : s.data.toList.length = s.size := by simp
  have h := sum_row W.heap.size 0 1 [s] _ (rows_made W _ _ rfl 9) (by simp) (by simp) (by rw [cat_1, hl]; omega)
  rw [cat_1] at h
  exact h.mono (by rintro e w' ⟨h1, h2⟩; exact ⟨h1, ((Below.refl _ _).alloc (Nat.le_refl _) _).trans (h2.mono (by simp))⟩)
theorem wpList_wanted {P : Program} {ops : Array Oper} {rest : List Oper} {o : Oper} {a : Act} {w : World} {Q : Exit → Act → World → Prop} (hw : Region.wanted o (yielded ops a.tmps) = true) (h : o.wp P a w (wpList P ops Q rest) Q) : wpList P ops Q (o :: rest) a w := by
  unfold wpList
  rw [if_pos hw]
  exact .inl h
theorem infoS : (Try.prog.info? 9).map (fun i => (i.zero, i.size, i.bytes)) = some (some (.string ⟨#[]⟩), 1, 16) := by kernel_rfl
theorem made_strs (M : Nat) : (madeCells (Value.string ⟨#[]⟩).cells (M * 1)).toList = (List.replicate M (⟨#[]⟩ : ByteArray)).map Value.string := by
  rw [Nat.mul_one]
  apply List.ext_getElem
  · simp [madeCells, Value.cells]
  · intro i h1 h2
    simp [madeCells, Value.cells, Nat.mod_one]
theorem own_keep {w w' : World} {B : Nat} {e : TypeId} {size : Nat} {v : Value} {n : Nat} {xs : List Value} (h : w.ownsRow B e size v n xs) (hb : Below w.heap.size w w') : w'.ownsRow B e size v n xs :=
  h.kept (row := none) ⟨hb.os, hb.tape, hb.output, hb.size, fun k hk _ => hb.block k hk⟩ (by
    cases hv : v.ownBlock with
    | none => exact .inl rfl
    | some g => exact .inr (by intro e; cases e))
theorem own_row {w : World} {B n c g : Nat} {xs : List ByteArray} (h : w.ownsRow B 9 1 (.slice (some ⟨g, 0, none⟩) n c) n (xs.map Value.string)) : xs.length = n ∧ n ≤ c ∧ RowS w g 0 xs := by
  have hl : xs.length = n := by have := h.1; simpa using this
  have hc := World.ownsRow.cells h (g := g) rfl
  have hlt := World.ownsRow.lt h g rfl
  refine ⟨hl, ?_, hlt.2, fun j x hj => ?_⟩
  · rcases h.2 with ⟨hv, _⟩ | ⟨g1, cap, cur, hv, _, _, hx, _⟩
    · cases hv
    · injection hv with _ _ h3
      omega
  · have := hc j (.string x) (by simp [hj])
    rw [Addr.add_mid] at this
    exact this
theorem sum_own (B n c g : Nat) (xs : List ByteArray) (w : World) (h : w.ownsRow B 9 1 (.slice (some ⟨g, 0, none⟩) n c) n (xs.map Value.string)) (hn : n ≤ 1000) (l : List UInt8) (hc : cat xs = l) (hl : l.length ≤ 100000) :
    Calls Try.prog 10 #[.slice (some ⟨g, 0, none⟩) n c] w fun e w' => e = .returned (.string ⟨(sha l).toArray⟩) ∧ Below w.heap.size w w' := by
  obtain ⟨h1, h2, h3⟩ := own_row h
  have := sum_row g 0 c xs w h3 (by omega) (by omega) (by rw [hc]; exact hl)
  rw [h1, hc] at this
  exact this
set_option maxHeartbeats 4000000 in
theorem none_any (many : Int) (s : ByteArray) (w : World) (h0 : 0 ≤ many) (h1 : many ≤ 255) :
    Calls Try.prog 7 #[.int .u8 many, .string s] w fun e w' => e = .returned (.bool true) ∧ Below w.heap.size w w' := by
  by_cases hs : 500 < s.size
  · have h1 : (500 : Int) < (s.size : Int) := by omega
    go_enter Try.func7, Try.ntmps7
    go_wp2_with fail
    refine (shown_any _).mono ?_
    rintro e w1 ⟨rfl, hb⟩
    have HB := Lib.hid hb
    clear hb
    go_wp2
    go_ret
    exact ⟨rfl, HB.out⟩
  · have hsi : ¬ (500 : Int) < (s.size : Int) := by omega
    obtain ⟨M, hM⟩ : ∃ M : Nat, many % 20 = (M : Int) := ⟨(many % 20).toNat, by have := Int.emod_nonneg many (show (20 : Int) ≠ 0 by decide); omega⟩
    have hM1 : M < 20 := by omega
    have hM' : many.tmod 20 = (M : Int) := by rw [Int.tmod_eq_emod_of_nonneg h0]; exact hM
    go_enter Try.func7, Try.ntmps7
    go_wp2_with fail
    refine (shown_any _).mono ?_
    rintro e w1 ⟨rfl, hb⟩
    have HB := Lib.hid hb
    have hz1 := hb.size
    clear hb
    obtain ⟨i0, hi, hz0, hz1', hz2⟩ := info_parts infoS
    obtain ⟨w2, HM, ho, hg⟩ := run_makeSlice_full (P := Try.prog) w1 w1.heap.size 22 9 i0 (.string ⟨#[]⟩) 1 Try.underlying22 hi hz0 hz1' .i64 .i64 M (by omega) (by rw [hz2]; omega) (by unfold maxLen; omega) (Nat.le_refl _)
    rw [made_strs] at ho
    have HO := Lib.hid ho
    have hw12 : Below w1.heap.size w1 w2 := ⟨hg.os, hg.tape, hg.output, hg.size, fun k hk => hg.block k hk (by intro e; cases e)⟩
    have HB2 := Lib.hid (HB.out.trans (hw12.mono hz1))
    have hz3 := HB2.out.size
    have hss : s.data.toList.length ≤ 500 := by simp; omega
    have hszs : s.size ≤ 500 := by omega
    have hi := Lib.hid hi; have hz0 := Lib.hid hz0; have hz1' := Lib.hid hz1'; have hz2 := Lib.hid hz2
    have CE : Hid (Calls Try.prog 10 #[.slice (some ⟨w1.heap.size, 0, none⟩) M M] w2 fun e w' => e = .returned (.string ⟨#[227, 176, 196, 66, 152, 252, 28, 20, 154, 251, 244, 200, 153, 111, 185, 36, 39, 174, 65, 228, 100, 155, 147, 76, 164, 149, 153, 27, 120, 82, 184, 85]⟩) ∧ Below w2.heap.size w2 w') := Lib.hid (by
      have h := sum_own _ M M _ _ w2 HO.out (by omega) [] (cat_none M) (by decide)
      rw [Dg.empty] at h
      exact h)
    have CH : Hid (∀ W : World, Calls Try.prog 15 #[.string ⟨#[227, 176, 196, 66, 152, 252, 28, 20, 154, 251, 244, 200, 153, 111, 185, 36, 39, 174, 65, 228, 100, 155, 147, 76, 164, 149, 153, 27, 120, 82, 184, 85]⟩] W fun e w' => e = .returned (.string ⟨#[101, 51, 98, 48, 99, 52, 52, 50, 57, 56, 102, 99, 49, 99, 49, 52, 57, 97, 102, 98, 102, 52, 99, 56, 57, 57, 54, 102, 98, 57, 50, 52, 50, 55, 97, 101, 52, 49, 101, 52, 54, 52, 57, 98, 57, 51, 52, 99, 97, 52, 57, 53, 57, 57, 49, 98, 55, 56, 53, 50, 98, 56, 53, 53]⟩) ∧ Below W.heap.size W w') := Lib.hid (fun W => hex_any _ W (by decide))
    obtain ⟨S, hS⟩ : ∃ S, sha s.data.toList = S := ⟨_, rfl⟩
    have hSl : S.length = 32 := by rw [← hS]; exact sha_len _
    have CS : Hid (∀ W : World, Calls Try.prog 10 #[.slice (some ⟨W.heap.size, 0, none⟩) 1 1] (W.alloc (.cells #[.string s] 9)) fun e w' => e = .returned (.string ⟨S.toArray⟩) ∧ Below W.heap.size W w') := Lib.hid (fun W => by rw [← hS]; exact sum_one s W (by omega))
    obtain ⟨T, hT⟩ : ∃ T, hexL S = T := ⟨_, rfl⟩
    have hTl : T.length = 64 := by rw [← hT, hexL_len, hSl]
    have CT : Hid (∀ W : World, Calls Try.prog 15 #[.string ⟨S.toArray⟩] W fun e w' => e = .returned (.string ⟨T.toArray⟩) ∧ Below W.heap.size W w') := Lib.hid (fun W => by
      have h := hex_any ⟨S.toArray⟩ W (by show S.length ≤ _; omega)
      rw [show (⟨S.toArray⟩ : ByteArray).data.toList = S from rfl, hT] at h
      exact h)
    have CA : Hid (∀ (W : World) (g c : Nat), W.ownsRow w1.heap.size 9 1 (.slice (some ⟨g, 0, none⟩) (M + 1) c) (M + 1) ((List.replicate M (⟨#[]⟩ : ByteArray)).map Value.string ++ [.string s]) → Calls Try.prog 10 #[.slice (some ⟨g, 0, none⟩) (M + 1) c] W fun e w' => e = .returned (.string ⟨S.toArray⟩) ∧ Below W.heap.size W w') := Lib.hid (fun W g c h => by
      have h2 := sum_own _ (M + 1) c g (List.replicate M ⟨#[]⟩ ++ [s]) W (by rw [List.map_append]; exact h) (by omega) s.data.toList (cat_last M s) (by omega)
      rw [hS] at h2
      exact h2)
    clear ho hg hw12 hS hT hss hs
    go_wp2_with fail
    refine CE.out.mono ?_
    rintro e w3 ⟨rfl, hb⟩
    have HO3 := Lib.hid (own_keep HO.out hb)
    have HB3 := Lib.hid (HB2.out.trans (hb.mono hz3))
    have hz4 := HB3.out.size
    clear hb HO HB2
    go_wp2_with fail
    refine (CH.out _).mono ?_
    rintro e w4 ⟨rfl, hb⟩
    have HO4 := Lib.hid (own_keep HO3.out hb)
    have HB4 := Lib.hid (HB3.out.trans (hb.mono hz4))
    have hz5 := HB4.out.size
    clear hb HO3 HB3
    go_wp2_with fail
    refine (CS.out _).mono ?_
    rintro e w5 ⟨rfl, hb⟩
    have HO5 := Lib.hid (own_keep HO4.out hb)
    have HB5 := Lib.hid (HB4.out.trans (hb.mono hz5))
    have hz6 := HB5.out.size
    clear hb HO4 HB4
    go_wp2_with fail
    refine (CT.out _).mono ?_
    rintro e w6 ⟨rfl, hb⟩
    have HO6 := Lib.hid (own_keep HO5.out hb)
    have HB6 := Lib.hid (HB5.out.trans (hb.mono hz6))
    have hz7 := HB6.out.size
    clear hb HO5 HB5
    have HN : Hid (∀ (j : Nat) (u : Value), ([.string s] : List Value)[j]? = some u → (w6.alloc (.cells #[.string s] 9)).cell? ((⟨w6.heap.size, 0, none⟩ : Addr).add j) = some u) := Lib.hid (by
      intro j u hj
      cases j with
      | zero =>
        simp only [List.getElem?_cons_zero, Option.some.injEq] at hj
        subst hj
        simp [Addr.add, go_sem]
      | succ j => simp at hj)
    have hz8 : w1.heap.size ≤ w6.heap.size := by have := World.ownsRow.lt HO6.out w1.heap.size rfl; omega
    have HO7 := Lib.hid (World.ownsRow.alloc HO6.out (.cells #[.string s] 9))
    clear HM
    obtain ⟨v', w7, HAP, hown', hgrow, _⟩ := run_append_own_at (P := Try.prog) (w6.alloc (.cells #[.string s] 9)) w1.heap.size 22 22 9 i0 (.string ⟨#[]⟩) 1 16 Try.underlying22 hi.out hz0.out hz1'.out hz2.out rfl (by decide) (.slice (some ⟨w1.heap.size, 0, none⟩) M M) M _ HO7.out ⟨w6.heap.size, 0, none⟩ 1 1 [.string s] rfl HN.out (by intro u hu; rw [List.mem_singleton.1 hu]; rfl) (by unfold maxLen; omega) (by omega) (by simp; omega)
    have hform : ∃ g c, v' = .slice (some ⟨g, 0, none⟩) (M + 1) c := by
      rcases hown'.2 with ⟨_, h⟩ | ⟨g, cap, cur, hv, _⟩
      · omega
      · exact ⟨g, cap, hv⟩
    obtain ⟨g, c, rfl⟩ := hform
    have CA1 := Lib.hid (CA.out w7 g c hown')
    have hs7 := hgrow.size
    simp at hs7
    have HB7 : Hid (Below w.heap.size w w7) := Lib.hid ((HB6.out.alloc hz7 _).grown hgrow (by simp; omega) (fun k hk => by cases hk; omega))
    have hz9 := HB7.out.size
    have HAP := Lib.hid HAP
    clear hown' hgrow CA HO6 HO7 HN HB6
    go_wp2_with (at_builtin; refine wpList_wanted (by rfl) (Lib.wp_append_run _ _ _ _ _ rfl _ _ rfl rfl _ _ HAP.out ?_))
    go_wp2_with fail
    refine CA1.out.mono ?_
    rintro e w8 ⟨rfl, hb⟩
    have HB8 := Lib.hid (HB7.out.trans (hb.mono hz9))
    have hz10 := HB8.out.size
    clear hb HB7 HAP
    go_wp2_with fail
    refine (CS.out _).mono ?_
    rintro e w9 ⟨rfl, hb⟩
    have HB9 := Lib.hid (HB8.out.trans (hb.mono hz10))
    clear hb HB8
    go_wp2
    go_ret
    exact ⟨rfl, HB9.out⟩
theorem law_none (many : Int) (s : ByteArray) (w : World) (w0 : (Lit.int .u8 many).wf = true) (w1 : s.size ≤ maxLen) :
    Calls Try.prog 7 #[.int .u8 many, .string s] w fun e w' => e = .returned (.bool true) ∧ Below w.heap.size w w' :=
  none_any many s w (bounds_u8 w0).1 (bounds_u8 w0).2
end Go.Proofs.Ytbomfgcmbcfhoaa.Dg
