/- The walks of layer 5: the pair that bytes begin with. -/
import Derived.Test.YthhcpedaldlccaaDoorPmE
import Derived.Test.YthhcpedaldlccaaDoorVmN
import Derived.Deep.QuietTactic
import Derived.BigQuiet
namespace Go.Proofs.YthhcpedaldlccaaDoor.Pm
open Go.RowKit Vm
set_option linter.unusedVariables false
set_option linter.unusedSimpArgs false

/-- The pair that bytes begin with: its number, its value, what is behind. -/
def cutO (l : List UInt8) : Option (Nat × List UInt8 × List UInt8) := match gst l 2 with
  | some ([n, k], r) => if k ≤ r.length then some (n, r.take k, r.drop k) else none
  | _ => none
theorem gn_lt62 (l : List UInt8) (k : Nat) (h : k ≤ 8) : gn l k < 4611686018427387904 := by
  unfold gn
  exact Nat.lt_of_lt_of_le (Nat.mod_lt _ (Nat.pow_pos (by decide))) (Nat.le_trans (Nat.pow_le_pow_right (by decide) (show 8 * k - 2 ≤ 62 by omega)) (by decide))
theorem gk_le8 (l : List UInt8) : gk l ≤ 8 := by
  cases l with
  | nil => decide
  | cons b t =>
    have hb := b.toNat_lt
    have : b.toNat / 64 = 0 ∨ b.toNat / 64 = 1 ∨ b.toNat / 64 = 2 ∨ b.toNat / 64 = 3 := by omega
    show gw b ≤ 8
    unfold gw wd
    rcases this with h | h | h | h <;> rw [h] <;> decide
/-- Two numbers, by one after another. -/
theorem gst_two (l : List UInt8) : (gst l 2 = none) ∨ ∃ n k r, gst l 2 = some ([n, k], r) ∧ n < 4611686018427387904 ∧ k < 4611686018427387904 ∧ r.length ≤ l.length := by
  simp only [gst]
  by_cases h : gk l ≤ l.length
  · rw [if_pos h]
    simp only [List.nil_append]
    by_cases h2 : gk (l.drop (gk l)) ≤ (l.drop (gk l)).length
    · rw [if_pos h2]
      exact .inr ⟨_, _, _, rfl, gn_lt62 _ _ (gk_le8 _), gn_lt62 _ _ (gk_le8 _), by rw [List.length_drop, List.length_drop]; omega⟩
    · rw [if_neg h2]; exact .inl rfl
  · rw [if_neg h]; exact .inl rfl
set_option maxHeartbeats 2000000 in
theorem cut_none (s : ByteArray) (w : World) (ht : Tab w) (CG : Hid (∀ w : World, Tab w → Calls Tryd.prog 46 #[.string s, .int .i64 2] w fun e w' => e = .returned (.tuple #[.slice none 0 0, .string ⟨#[]⟩, .int .i64 10]) ∧ Below w.heap.size w w')) :
    Calls Tryd.prog 36 #[.string s] w fun e w' => e = .returned (.tuple #[.agg #[.int .u64 0, .string ⟨#[]⟩], .string ⟨#[]⟩, .bool false]) ∧ Below w.heap.size w w' := by
  have hlt := ht.lt
  have HT := Lib.hid (ht.below ((Below.refl w.heap.size w).alloc (Nat.le_refl _) (.cells #[.int .u64 0, .string ⟨#[]⟩] 54)) ht.lt)
  clear ht
  go_enter Tryd.func36, Tryd.ntmps36
  go_wp2_with fail
  refine (CG.out _ HT.out).mono ?_
  rintro e w1 ⟨rfl, hb⟩
  have HB := Lib.hid (((Below.refl w.heap.size w).alloc (Nat.le_refl _) (.cells #[.int .u64 0, .string ⟨#[]⟩] 54)).trans (hb.mono (by simp)))
  have r0 := hb.cell (p := ⟨w.heap.size, 0, none⟩) (by simp)
  have r1 := hb.cell (p := ⟨w.heap.size, 1, none⟩) (by simp)
  have q0 := hb.frozen (p := ⟨w.heap.size, 0, none⟩) (by simp)
  have q1 := hb.frozen (p := ⟨w.heap.size, 1, none⟩) (by simp)
  simp [go_sem] at r0 r1 q0 q1
  clear hb
  go_wp2
  refine bodyPost_ret (v := .tuple #[.agg #[.int .u64 0, .string ⟨#[]⟩], .string ⟨#[]⟩, .bool false]) (by simp [results, Tryd.results36, go_sem, *]) rfl ⟨rfl, ?_⟩
  iterate 2 (with_reducible refine Below.setCell ?_ ?hc _; case hc => simp; done)
  with_reducible exact HB.out
set_option maxHeartbeats 2000000 in
theorem cut_long (s rr : ByteArray) (n k : Nat) (w : World) (ht : Tab w) (hr : rr.size ≤ 140737488351232) (hk : k < 4611686018427387904) (hn : n < 4611686018427387904) (hf : ((rr.size : Nat) : Int) < ((k : Nat) : Int)) (CG : Hid (∀ w : World, Tab w → Calls Tryd.prog 46 #[.string s, .int .i64 2] w fun e w' => ∃ b c, e = .returned (.tuple #[.slice (some ⟨b, 0, none⟩) 2 c, .string rr, .int .i64 0]) ∧ w'.cell? ⟨b, 0, none⟩ = some (.int .u64 (n : Nat)) ∧ w'.cell? ⟨b, 1, none⟩ = some (.int .u64 (k : Nat)) ∧ Below w.heap.size w w')) :
    Calls Tryd.prog 36 #[.string s] w fun e w' => e = .returned (.tuple #[.agg #[.int .u64 0, .string ⟨#[]⟩], .string ⟨#[]⟩, .bool false]) ∧ Below w.heap.size w w' := by
  have hlt := ht.lt
  have HT := Lib.hid (ht.below ((Below.refl w.heap.size w).alloc (Nat.le_refl _) (.cells #[.int .u64 0, .string ⟨#[]⟩] 54)) ht.lt)
  clear ht
  go_enter Tryd.func36, Tryd.ntmps36
  go_wp2_with fail
  refine (CG.out _ HT.out).mono ?_
  rintro e w1 ⟨b, c, rfl, d0, d1, hb⟩
  have HB := Lib.hid (((Below.refl w.heap.size w).alloc (Nat.le_refl _) (.cells #[.int .u64 0, .string ⟨#[]⟩] 54)).trans (hb.mono (by simp)))
  have r0 := hb.cell (p := ⟨w.heap.size, 0, none⟩) (by simp)
  have r1 := hb.cell (p := ⟨w.heap.size, 1, none⟩) (by simp)
  have q0 := hb.frozen (p := ⟨w.heap.size, 0, none⟩) (by simp)
  have q1 := hb.frozen (p := ⟨w.heap.size, 1, none⟩) (by simp)
  simp [go_sem] at r0 r1 q0 q1
  clear hb
  go_wp2_with fail
  go_quiet (fail)
  go_wp2
  refine bodyPost_ret (v := .tuple #[.agg #[.int .u64 0, .string ⟨#[]⟩], .string ⟨#[]⟩, .bool false]) (by simp [results, Tryd.results36, go_sem, *]) rfl ⟨rfl, ?_⟩
  iterate 2 (with_reducible refine Below.setCell ?_ ?hc _; case hc => simp; done)
  exact below_drewN HB.out _
set_option maxHeartbeats 2000000 in
theorem cut_ok (s rr va rest : ByteArray) (n k : Nat) (w : World) (ht : Tab w) (hr : rr.size ≤ 140737488351232) (hk : k < 4611686018427387904) (hn : n < 4611686018427387904) (hf : ¬ ((rr.size : Nat) : Int) < ((k : Nat) : Int)) (hf2 : k ≤ rr.size) (X1 : rr.extract 0 k = va) (X2 : rr.extract k rr.size = rest) (CG : Hid (∀ w : World, Tab w → Calls Tryd.prog 46 #[.string s, .int .i64 2] w fun e w' => ∃ b c, e = .returned (.tuple #[.slice (some ⟨b, 0, none⟩) 2 c, .string rr, .int .i64 0]) ∧ w'.cell? ⟨b, 0, none⟩ = some (.int .u64 (n : Nat)) ∧ w'.cell? ⟨b, 1, none⟩ = some (.int .u64 (k : Nat)) ∧ Below w.heap.size w w')) :
    Calls Tryd.prog 36 #[.string s] w fun e w' => e = .returned (.tuple #[.agg #[.int .u64 (n : Nat), .string va], .string rest, .bool true]) ∧ Below w.heap.size w w' := by
  have hlt := ht.lt
  have HT := Lib.hid (ht.below ((Below.refl w.heap.size w).alloc (Nat.le_refl _) (.cells #[.int .u64 0, .string ⟨#[]⟩] 54)) ht.lt)
  clear ht
  go_enter Tryd.func36, Tryd.ntmps36
  go_wp2_with fail
  refine (CG.out _ HT.out).mono ?_
  rintro e w1 ⟨b, c, rfl, d0, d1, hb⟩
  have HB := Lib.hid (((Below.refl w.heap.size w).alloc (Nat.le_refl _) (.cells #[.int .u64 0, .string ⟨#[]⟩] 54)).trans (hb.mono (by simp)))
  have r0 := hb.cell (p := ⟨w.heap.size, 0, none⟩) (by simp)
  have r1 := hb.cell (p := ⟨w.heap.size, 1, none⟩) (by simp)
  have q0 := hb.frozen (p := ⟨w.heap.size, 0, none⟩) (by simp)
  have q1 := hb.frozen (p := ⟨w.heap.size, 1, none⟩) (by simp)
  simp [go_sem] at r0 r1 q0 q1
  clear hb
  go_wp2_with fail
  go_quiet (fail)
  go_wp2_with fail
  go_region
  all_goals go_wp2
  all_goals refine bodyPost_ret (v := .tuple #[.agg #[.int .u64 (n : Nat), .string va], .string rest, .bool true]) (by simp [results, Tryd.results36, go_sem, *]) rfl ⟨rfl, ?_⟩
  all_goals
    iterate 2 (with_reducible refine Below.setCell ?_ ?hc _; case hc => simp; done)
    exact below_drewN HB.out _
/-- What cutPair answers. -/
def cutV (l : List UInt8) : Value := match cutO l with
  | some (n, v, r) => .tuple #[.agg #[.int .u64 (n : Nat), .string ⟨v.toArray⟩], .string ⟨r.toArray⟩, .bool true]
  | none => .tuple #[.agg #[.int .u64 0, .string ⟨#[]⟩], .string ⟨#[]⟩, .bool false]
theorem bs_to (l : List UInt8) (n : Nat) : (⟨l.toArray⟩ : ByteArray).extract 0 n = ⟨(l.take n).toArray⟩ := by
  apply ByteArray.ext
  simp
theorem bs_from (l : List UInt8) (n : Nat) : (⟨l.toArray⟩ : ByteArray).extract n l.length = ⟨(l.drop n).toArray⟩ := by
  apply ByteArray.ext
  apply Array.toList_inj.1
  rw [Lib.extract_data]
  simp [List.take_of_length_le]
theorem cutPair_any (l : List UInt8) (w : World) (ht : Tab w) (hl : l.length ≤ 4000) :
    Calls Tryd.prog 36 #[.string ⟨l.toArray⟩] w fun e w' => e = .returned (cutV l) ∧ Below w.heap.size w w' := by
  have G := fun (w : World) (ht : Tab w) => vgets ⟨l.toArray⟩ 2 w ht (by rw [size_len]; exact hl) (by decide)
  have EQ : (⟨l.toArray⟩ : ByteArray).data.toList = l := rfl
  have E2 : (2 : Int).toNat = 2 := rfl
  rw [EQ, E2] at G
  rcases gst_two l with h | ⟨n, k, r, h, hn, hk, hr⟩
  · have e : cutV l = .tuple #[.agg #[.int .u64 0, .string ⟨#[]⟩], .string ⟨#[]⟩, .bool false] := by
      unfold cutV cutO; rw [h]
    rw [e]
    refine cut_none _ w ht (Lib.hid fun w ht => (G w ht).mono ?_)
    rintro e w' ⟨hb, hp⟩
    rw [h] at hp
    exact ⟨hp, hb⟩
  · have CG : Hid (∀ w : World, Tab w → Calls Tryd.prog 46 #[.string ⟨l.toArray⟩, .int .i64 2] w fun e w' => ∃ b c, e = .returned (.tuple #[.slice (some ⟨b, 0, none⟩) 2 c, .string ⟨r.toArray⟩, .int .i64 0]) ∧ w'.cell? ⟨b, 0, none⟩ = some (.int .u64 (n : Nat)) ∧ w'.cell? ⟨b, 1, none⟩ = some (.int .u64 (k : Nat)) ∧ Below w.heap.size w w') := Lib.hid fun w ht => (G w ht).mono fun e w' hp => by
      obtain ⟨hb, hp⟩ := hp
      rw [h] at hp
      obtain ⟨v, he, hv⟩ := hp
      rcases hv.2 with ⟨_, h0⟩ | ⟨g, cap, cur, hvv, _⟩
      · exact absurd h0 (by simp)
      · refine ⟨g, cap, by rw [he, hvv]; rfl, ?_, ?_, hb⟩
        · subst hvv; simpa [numCells] using hv.cellAt 0 (by simp)
        · subst hvv; simpa [numCells] using hv.cellAt 1 (by simp)
    have hs : (⟨r.toArray⟩ : ByteArray).size = r.length := by rw [size_len]
    by_cases hf : k ≤ r.length
    · have e : cutV l = .tuple #[.agg #[.int .u64 (n : Nat), .string ⟨(r.take k).toArray⟩], .string ⟨(r.drop k).toArray⟩, .bool true] := by
        unfold cutV cutO; rw [h]; simp only; rw [if_pos hf]
      rw [e]
      exact cut_ok _ _ _ _ n k w ht (by omega) hk hn (by omega) (by omega) (bs_to _ _) (by rw [hs]; exact bs_from _ _) CG
    · have e : cutV l = .tuple #[.agg #[.int .u64 0, .string ⟨#[]⟩], .string ⟨#[]⟩, .bool false] := by
        unfold cutV cutO; rw [h]; simp only; rw [if_neg hf]
      rw [e]
      exact cut_long _ _ n k w ht (by omega) hk hn (by omega) CG
end Go.Proofs.YthhcpedaldlccaaDoor.Pm
