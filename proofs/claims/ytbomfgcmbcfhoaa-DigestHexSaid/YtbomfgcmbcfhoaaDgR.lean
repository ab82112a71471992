/- The walks of layer 7: the document's Hex. By tools/gen-digest-r.py. -/
import Derived.Test.YtbomfgcmbcfhoaaDgQ
import Derived.Deep.RegionHeld3
namespace Go.Proofs.Ytbomfgcmbcfhoaa.Dg
open Go.RowKit
set_option linter.unusedVariables false
set_option linter.unusedSimpArgs false

set_option maxRecDepth 20000 in
set_option maxHeartbeats 8000000 in
theorem hex_ref (s : ByteArray) (w : World) (hs : s.size ≤ 100000) :
    Calls Try.prog 16 #[.string s] w fun e w' => e = .returned (.string ⟨(hexL s.data.toList).toArray⟩) ∧ Below w.heap.size w w' := by
  obtain ⟨i0, hi, hz0, hz1, hz2⟩ := info_parts Bld.infoB
  have hi := Lib.hid hi; have hz0 := Lib.hid hz0; have hz1 := Lib.hid hz1; have hz2 := Lib.hid hz2
  have hls : s.data.toList.length = s.size := by simp
  have HLS := Lib.hid hls
  have HN1 := Lib.hid hs
  have hsi : (s.size : Int) ≤ 100000 := by omega
  clear hls hs
  go_enter Try.func16, Try.ntmps16
  go_wp2
  go_loopw [3, 4] (fun tv iv wr => ∃ (k : Nat) (ad : Option Addr) (cp : Nat), k ≤ s.size ∧ iv = .int .i64 k ∧ tv = .slice ad (2 * k) cp ∧ Own8 wr w.heap.size (.slice ad (2 * k) cp) (hexL (s.data.toList.take k)) ∧ Below w.heap.size w wr) (fun _ iv _ => s.size - (intOf iv).toNat)
  case atStart =>
    refine ⟨0, some ⟨w.heap.size, 0, none⟩, 0, Nat.zero_le _, rfl, rfl, ?_, (Below.refl _ _).alloc (Nat.le_refl _) _⟩
    exact World.ownsRow_lit (e := 5) (size := 1) w #[] 0 (Nat.le_refl _) (by decide) rfl
  case round =>
    obtain ⟨k, ad, cp, hk, rfl, rfl, hO, hb⟩ := hrel
    have HO := Lib.hid hO
    have hsz := hb.size
    have HBr := Lib.hid hb
    clear hb hO
    by_cases hlt : k < s.size
    · obtain ⟨c, hc⟩ : ∃ c, s[k] = c := ⟨_, rfl⟩
      have hget : s.data.toList[k]? = some c := by
        rw [List.getElem?_eq_getElem (by rw [HLS.out]; exact hlt), ← hc]; rfl
      obtain ⟨h, hh⟩ : ∃ h, c.toNat / 16 = h := ⟨_, rfl⟩
      obtain ⟨l, hl⟩ : ∃ l, c.toNat % 16 = l := ⟨_, rfl⟩
      have HS : Hid (hexL (s.data.toList.take (k + 1)) = hexL (s.data.toList.take k) ++ [dg h, dg l]) := Lib.hid (by rw [hexL_step _ _ _ hget, hh, hl])
      have hc8 : (c.toNat : Int) ≤ 255 := by have := c.toNat_lt; omega
      have hh1 : h < 16 := by omega
      have hl1 : l < 16 := by omega
      have i1 := index_dig h hh1
      have i2 := index_dig l hl1
      have e1 : (c.toNat : Int) / 16 = (h : Int) := by omega
      have e2 : (c.toNat : Int) % 16 = (l : Int) := by omega
      have e3 : (c.toNat : Int).tdiv 16 = (h : Int) := by rw [Int.tdiv_eq_ediv_of_nonneg (by omega)]; exact e1
      have e4 : (c.toNat : Int).tmod 16 = (l : Int) := by rw [Int.tmod_eq_emod_of_nonneg (by omega)]; exact e2
      have e5 : IntKind.u8.wrap (h : Int) = (h : Int) := by rw [IntKind.wrap_u8]; omega
      have HO2 : Hid (wr.ownsRow w.heap.size 5 1 (.slice ad (2 * k) cp) (2 * k) (Lib.byteCells (hexL (s.data.toList.take k)))) := Lib.hid (by
        have h1 := HO.out
        unfold Own8 at h1
        rw [hexL_len, List.length_take, Nat.min_eq_left (by rw [HLS.out]; omega)] at h1
        exact h1)
      have HO3 : Hid ((wr.alloc (.cells #[.int .u8 (dg h).toNat, .int .u8 (dg l).toNat] 5)).ownsRow w.heap.size 5 1 (.slice ad (2 * k) cp) (2 * k) (Lib.byteCells (hexL (s.data.toList.take k)))) := Lib.hid (World.ownsRow.alloc HO2.out _)
      have HNW : Hid (∀ (j : Nat) (u : Value), ([.int .u8 (dg h).toNat, .int .u8 (dg l).toNat] : List Value)[j]? = some u → (wr.alloc (.cells #[.int .u8 (dg h).toNat, .int .u8 (dg l).toNat] 5)).cell? ((⟨wr.heap.size, 0, none⟩ : Addr).add j) = some u) := Lib.hid (by
        intro j u hj
        rw [Addr.add_mid, cell_of_row _ _ _ _ _ _ (heap_alloc_new wr _), Nat.zero_add, ← hj]
        simp)
      clear hget hh hl
      have b1 : (0 : Int) ≤ (k : Int) := by omega
      have b2 : (k : Int) < (s.size : Int) := by omega
      go_wp2
      refine wp_region_noPanic ?_
      refine wp_region_held_drew (S := fun _ => True) (by kernel_rfl) ?_ (fun hHeld => ?_)
      · exact trivial
      refine wpAnyH_take (i := 0) (v := ?_) rfl (by kernel_rfl) (by kernel_rfl) (by kernel_rfl) (fun _ _ _ h => h) (Or.inl ⟨by rfl, ?_⟩) (by assumption) ?_
      rotate_left
      · (intro w hSw; (try dsimp only at hSw); go_simp; (try with_reducible rfl))
      try simp only [Act.put, List.getElem_toArray, List.getElem_cons_zero, List.getElem_cons_succ, List.setIfInBounds_toArray, List.set_cons_zero, List.set_cons_succ]
      refine wpAnyH_take (i := 1) (v := ?_) rfl (by kernel_rfl) (by kernel_rfl) (by kernel_rfl) (fun _ _ _ h => h) (Or.inl ⟨by rfl, ?_⟩) (by assumption) ?_
      rotate_left
      · (intro w hSw; (try dsimp only at hSw); go_simp; (try with_reducible rfl))
      try simp only [Act.put, List.getElem_toArray, List.getElem_cons_zero, List.getElem_cons_succ, List.setIfInBounds_toArray, List.set_cons_zero, List.set_cons_succ]
      refine wpAnyH_take (i := 2) (v := ?_) rfl (by kernel_rfl) (by kernel_rfl) (by kernel_rfl) (fun _ _ _ h => h) (Or.inl ⟨by rfl, ?_⟩) (by assumption) ?_
      rotate_left
      · (intro w hSw; (try dsimp only at hSw); go_simp; (try with_reducible rfl))
      try simp only [Act.put, List.getElem_toArray, List.getElem_cons_zero, List.getElem_cons_succ, List.setIfInBounds_toArray, List.set_cons_zero, List.set_cons_succ]
      refine wpAnyH_take (i := 3) (v := ?_) rfl (by kernel_rfl) (by kernel_rfl) (by kernel_rfl) (fun _ _ _ h => h) (Or.inl ⟨by rfl, ?_⟩) (by assumption) ?_
      rotate_left
      · (intro w hSw; (try dsimp only at hSw); go_simp; (try with_reducible rfl))
      try simp only [Act.put, List.getElem_toArray, List.getElem_cons_zero, List.getElem_cons_succ, List.setIfInBounds_toArray, List.set_cons_zero, List.set_cons_succ]
      refine wpAnyH_take (i := 4) (v := ?_) rfl (by kernel_rfl) (by kernel_rfl) (by kernel_rfl) (fun _ _ _ h => h) (Or.inl ⟨by rfl, ?_⟩) (by assumption) ?_
      rotate_left
      · (intro w hSw; (try dsimp only at hSw); go_simp; (try with_reducible rfl))
      try simp only [Act.put, List.getElem_toArray, List.getElem_cons_zero, List.getElem_cons_succ, List.setIfInBounds_toArray, List.set_cons_zero, List.set_cons_succ]
      refine wpAnyH_take (i := 5) (v := ?_) rfl (by kernel_rfl) (by kernel_rfl) (by kernel_rfl) (fun _ _ _ h => h) (Or.inl ⟨by rfl, ?_⟩) (by assumption) ?_
      rotate_left
      · (intro w hSw; (try dsimp only at hSw); go_simp; (try with_reducible rfl))
      try simp only [Act.put, List.getElem_toArray, List.getElem_cons_zero, List.getElem_cons_succ, List.setIfInBounds_toArray, List.set_cons_zero, List.set_cons_succ]
      refine wpAnyH_take (i := 6) (v := ?_) rfl (by kernel_rfl) (by kernel_rfl) (by kernel_rfl) (fun _ _ _ h => h) (Or.inl ⟨by rfl, ?_⟩) (by assumption) ?_
      rotate_left
      · (intro w hSw; (try dsimp only at hSw); go_simp; (try with_reducible rfl))
      try simp only [Act.put, List.getElem_toArray, List.getElem_cons_zero, List.getElem_cons_succ, List.setIfInBounds_toArray, List.set_cons_zero, List.set_cons_succ]
      refine wpAnyH_take (i := 7) (v := ?_) rfl (by kernel_rfl) (by kernel_rfl) (by kernel_rfl) (fun _ _ _ h => h) (Or.inl ⟨by rfl, ?_⟩) (by assumption) ?_
      rotate_left
      · (intro w hSw; (try dsimp only at hSw); go_simp; (try with_reducible rfl))
      try simp only [Act.put, List.getElem_toArray, List.getElem_cons_zero, List.getElem_cons_succ, List.setIfInBounds_toArray, List.set_cons_zero, List.set_cons_succ]
      refine wpAnyH_take (i := 8) (v := ?_) rfl (by kernel_rfl) (by kernel_rfl) (by kernel_rfl) (fun _ _ _ h => h) (Or.inl ⟨by rfl, ?_⟩) (by assumption) ?_
      rotate_left
      · (intro w hSw; (try dsimp only at hSw); go_simp; (try with_reducible rfl))
      try simp only [Act.put, List.getElem_toArray, List.getElem_cons_zero, List.getElem_cons_succ, List.setIfInBounds_toArray, List.set_cons_zero, List.set_cons_succ]
      refine wpAnyH_take (i := 9) (v := ?_) rfl (by kernel_rfl) (by kernel_rfl) (by kernel_rfl) (fun _ _ _ h => h) (Or.inl ⟨by rfl, ?_⟩) (by assumption) ?_
      rotate_left
      · (intro w hSw; (try dsimp only at hSw); go_simp; (try with_reducible rfl))
      try simp only [Act.put, List.getElem_toArray, List.getElem_cons_zero, List.getElem_cons_succ, List.setIfInBounds_toArray, List.set_cons_zero, List.set_cons_succ]
      refine wpAnyH_take (i := 10) (v := ?_) rfl (by kernel_rfl) (by kernel_rfl) (by kernel_rfl) (fun _ _ _ h => h) (Or.inl ⟨by rfl, ?_⟩) (by assumption) ?_
      rotate_left
      · (intro w hSw; (try dsimp only at hSw); go_simp; (try with_reducible rfl))
      try simp only [Act.put, List.getElem_toArray, List.getElem_cons_zero, List.getElem_cons_succ, List.setIfInBounds_toArray, List.set_cons_zero, List.set_cons_succ]
      refine wpAnyH_ready (rs := [11]) (by kernel_rfl) (by simp) ?_
      refine AllReadyH.cons rfl (fun K hK => ?_) AllReadyH.nil
      rw [if_pos (by rfl)]
      go_simp
      refine hK.out _ _ trivial (fun hHeld => ?_)
      clear hK K
      try simp only [Act.put, List.getElem_toArray, List.getElem_cons_zero, List.getElem_cons_succ, List.setIfInBounds_toArray, List.set_cons_zero, List.set_cons_succ]
      refine wpAnyH_ready (rs := [12]) (by kernel_rfl) (by simp) ?_
      refine AllReadyH.cons rfl (fun K hK => ?_) AllReadyH.nil
      rw [if_pos (by rfl)]
      refine wp_append_own _ _ _ 48 rfl w.heap.size 5 i0 (.int .u8 0) 1 1 Try.underlying48 hi.out hz0.out hz1.out hz2.out rfl (by decide) (.slice ad (2 * k) cp) (2 * k) (Lib.byteCells (hexL (s.data.toList.take k))) rfl HO3.out ⟨wr.heap.size, 0, none⟩ 2 2 [.int .u8 (dg h).toNat, .int .u8 (dg l).toNat] rfl rfl HNW.out ?c2 ?c3 ?c4 ?c5 ?_
      case c2 => intro u hu; simp only [List.mem_cons, List.not_mem_nil, or_false] at hu; rcases hu with rfl | rfl <;> rfl
      case c3 => have := HN1.out; unfold maxLen; omega
      case c4 => have := HN1.out; omega
      case c5 => show w.heap.size ≤ (wr.alloc _).heap.size; simp; omega
      intro v' w2 hown' hgrow _
      have hO8 : Own8 w2 w.heap.size v' (hexL (s.data.toList.take (k + 1))) := by
            rw [HS.out]
            exact Own8.of (by rw [hexL_len, List.length_take, Nat.min_eq_left (by rw [HLS.out]; omega)]; rfl) hown'
      obtain ⟨a2, c2, rfl⟩ := hO8.form
      have hl2 : (hexL (s.data.toList.take (k + 1))).length = 2 * (k + 1) := by rw [hexL_len, List.length_take, Nat.min_eq_left (by rw [HLS.out]; omega)]
      rw [hl2] at hO8 ⊢
      have HO8 := Lib.hid hO8
      have hgrow : (wr.alloc (.cells #[.int .u8 (dg h).toNat, .int .u8 (dg l).toNat] 5)).grownBy w2 (Value.slice ad (2 * k) cp).ownBlock := ⟨hgrow.os, hgrow.tape, hgrow.output, hgrow.size, hgrow.block⟩
      have HB8 : Hid (Below w.heap.size w w2) := Lib.hid ((HBr.out.alloc hsz _).grown hgrow (by simp; omega) (fun i hi => (HO2.out.lt i hi).1))
      clear hown' hgrow hO8 hl2
      refine hK.out _ _ trivial (fun hHeld => ?_)
      clear hK K
      try simp only [Act.put, List.getElem_toArray, List.getElem_cons_zero, List.getElem_cons_succ, List.setIfInBounds_toArray, List.set_cons_zero, List.set_cons_succ]
      refine wpAnyH_take (i := 13) (v := ?_) rfl (by kernel_rfl) (by kernel_rfl) (by kernel_rfl) (fun _ _ _ h => h) (Or.inl ⟨by rfl, ?_⟩) (by assumption) ?_
      rotate_left
      · (intro w hSw; (try dsimp only at hSw); go_simp; (try with_reducible rfl))
      try simp only [Act.put, List.getElem_toArray, List.getElem_cons_zero, List.getElem_cons_succ, List.setIfInBounds_toArray, List.set_cons_zero, List.set_cons_succ]
      refine wpAnyH_done (by kernel_rfl) (NoPanic.normal ?_) _
      go_wp2
      go_roundw
      case rel => exact ⟨k + 1, a2, c2, by omega, by go_num, rfl, HO8.out, HB8.out⟩
      case measure => simp [intOf]; omega
    · obtain rfl : k = s.size := by omega
      have HO2 : Hid (wr.ownsRow w.heap.size 5 1 (.slice ad (hexL s.data.toList).length cp) (hexL s.data.toList).length (Lib.byteCells (hexL s.data.toList))) := Lib.hid (by
        have h1 := HO.out
        unfold Own8 at h1
        rw [List.take_of_length_le (by rw [HLS.out]; exact Nat.le_refl _)] at h1
        rw [hexL_len, HLS.out] at h1 ⊢
        exact h1)
      have HC : Hid ((convert 48 9 (.slice ad (hexL s.data.toList).length cp)).run Try.prog wr = .ok (.string ⟨(hexL s.data.toList).toArray⟩) wr) := Lib.hid (conv_owned (hexL s.data.toList) HO2.out)
      rw [hexL_len, HLS.out] at HC
      have hconv := HC.out
      go_wp2
      go_ret
      exact ⟨rfl, HBr.out⟩
end Go.Proofs.Ytbomfgcmbcfhoaa.Dg
