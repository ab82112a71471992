/- The walks of layer 3: none, walk, and walk's iterator. -/
import Derived.Test.YtedijfcagkedaaaRgL
import Derived.Shelf.Abstract
import Derived.Shelf.RegionOpen
import Derived.OwnWalkIn
import Derived.TacticsInMore
import Derived.LoopNIn
import Derived.LoopIn
import Derived.Lib.Hide
import Derived.Outline
namespace Go.Proofs.Ytedijfcagkedaaa.Rg
set_option maxRecDepth 20000
open Go.RowKit Go.Shelf
set_option linter.unusedVariables false

/-- Has it a number? -/
def ok (x : Ran) : Prop := x.1 ≤ x.2
instance (x : Ran) : Decidable (ok x) := inferInstanceAs (Decidable (x.1 ≤ x.2))

/-- A slice that reads as these ranges. -/
def Rd (w : World) (v : Value) (l : List Ran) : Prop :=
  ∃ a cap, v = .slice a l.length cap ∧ l.length ≤ cap ∧ (l ≠ [] → ∃ b off, a = some ⟨b, off, none⟩ ∧
    ∀ i, i < l.length → w.cell? ⟨b, off + i * 2, none⟩ = some (.int .u64 (l.getD i (0, 0)).1) ∧ w.cell? ⟨b, off + i * 2 + 1, none⟩ = some (.int .u64 (l.getD i (0, 0)).2))
/-- The block that it lies in. -/
def Blk (v : Value) (k : Nat) : Prop := match v with | .slice (some a) n _ => 0 < n ∧ a.block = k | _ => False

set_option maxHeartbeats 400000 in
theorem none_any (lo hi : Int) (w : World) : Calls Try.prog 66 #[.agg #[.int .u64 lo, .int .u64 hi]] w fun e w' => e = .returned (.bool (decide (hi < lo))) ∧ Below w.heap.size w w' := by
  go_enter Try.func66, Try.ntmps66
  go_wp2
  go_ret
  exact ⟨rfl, (Below.refl _ _).alloc (Nat.le_refl _) _⟩

set_option maxHeartbeats 400000 in
theorem walk_any (a : Option Addr) (n cap : Nat) (w : World) : Calls Try.prog 49 #[.slice a n cap] w fun e w' => e = .returned (.func (.func 65) #[] #[.pointer (some ⟨w.heap.size, 0, none⟩)]) ∧ w' = w.alloc (.cells #[.slice a n cap] 26) := by
  go_enter Try.func49, Try.ntmps49
  go_wp2
  go_ret
  exact ⟨rfl, rfl⟩

theorem take_succ_getD {α : Type} (l : List α) (d : α) {k : Nat} (h : k < l.length) : l.take (k + 1) = l.take k ++ [l.getD k d] := by
  rw [List.take_succ_eq_append_getElem h]
  simp [List.getD, List.getElem?_eq_getElem h]
theorem filter_take {l : List Ran} {k : Nat} (h : k < l.length) {x : Ran} (hx : l.getD k (0, 0) = x) : (l.take (k + 1)).filter ok = (l.take k).filter ok ++ (if ok x then [x] else []) := by
  rw [take_succ_getD l (0, 0) h, List.filter_append, hx]
  by_cases h : ok x <;> simp [h]
theorem filter_prefix (l : List Ran) (k : Nat) : (l.take k).filter ok <+: l.filter ok := by
  have := (List.take_prefix k l)
  obtain ⟨t, ht⟩ := this
  exact ⟨t.filter ok, by rw [← List.filter_append, ht]⟩
theorem cell_below {A B : World} {n : Nat} (h : Below n A B) {b o : Nat} {v : Value} (hv : A.cell? ⟨b, o, none⟩ = some v) (hb : b < n) : B.cell? ⟨b, o, none⟩ = some v := (h.cell (p := ⟨b, o, none⟩) hb).trans hv

attribute [local go_sem] Oper.semAt_some
set_option maxHeartbeats 1000000 in
theorem walk1_row (Bs b off cap n : Nat) (l : List Ran) (hl : l.length = n) (hn : n ≤ 1000) (lp : Nat) (J Jx : List Ran → (Nat → Prop) → World → Prop) (W : World)
    (hBs : W.cell? ⟨Bs, 0, none⟩ = some (.slice (some ⟨b, off, none⟩) n cap))
    (hc : ∀ i, i < n → W.cell? ⟨b, off + i * 2, none⟩ = some (.int .u64 (l.getD i (0, 0)).1) ∧ W.cell? ⟨b, off + i * 2 + 1, none⟩ = some (.int .u64 (l.getD i (0, 0)).2))
    (hJ : Stable J)
    (hY : ∀ pre x A, pre ++ [x] <+: l.filter ok → W.heap.size ≤ A.heap.size → J pre (fun _ => False) A →
      YieldAt Fence.wide 0 Try.prog lp #[enc x] A fun e B => Only (fun k => ¬ (k = Bs ∨ k = b)) A B ∧ ((e = .returned (.bool true) ∧ J (pre ++ [x]) (fun _ => False) B) ∨ (e = .returned (.bool false) ∧ Jx (pre ++ [x]) (fun _ => False) B)))
    (h0 : J [] (fun _ => False) W) :
    CallsIn Fence.wide 0 Try.prog 65 #[.func (.yield lp) #[] #[], .pointer (some ⟨Bs, 0, none⟩)] W fun e B => (∃ v, e = .returned v) ∧ W.heap.size ≤ B.heap.size ∧ (J (l.filter ok) (fun _ => False) B ∨ ∃ pre, pre <+: l.filter ok ∧ Jx pre (fun _ => False) B) := by
  refine callsIn_of_wp Try.func65 rfl trivial ?_ rfl
  simp only [Try.ntmps65, List.size_toArray, List.length_cons, List.length_nil, Nat.reduceAdd, Nat.reduceSub, Array.replicate_succ, Array.replicate_zero, List.push_toArray, List.append_toArray, List.nil_append, List.cons_append]
  have HJ := Lib.hid hJ
  have HY := Lib.hid hY
  have HC := Lib.hid hc
  have H0 := Lib.hid h0
  clear hJ hY hc h0
  gi_wp2
  gi_loopw [7] (fun i wr => ∃ k : Nat, k ≤ n ∧ i = .int .i64 k ∧ W.heap.size ≤ wr.heap.size ∧ wr.heap[b]? = W.heap[b]? ∧ J ((l.take k).filter ok) (fun _ => False) wr)
    (fun i _ => n - (intOf i).toNat)
  case atStart => exact ⟨0, Nat.zero_le _, rfl, Nat.le_refl _, rfl, by simpa using H0.out⟩
  case round =>
    obtain ⟨k, hk, rfl, hsz, hkeep, hj⟩ := hrel
    have HJr := Lib.hid hj
    have HK := Lib.hid hkeep
    clear hj hkeep
    by_cases hlt : k < n
    · have hcx := HC.out k hlt
      have hc1 : wr.cell? ⟨b, off + k * 2, none⟩ = some (.int .u64 (l.getD k (0, 0)).1) := (World.cell?_of_block (a := ⟨b, off + k * 2, none⟩) HK.out).trans hcx.1
      have hc2 : wr.cell? ⟨b, off + k * 2 + 1, none⟩ = some (.int .u64 (l.getD k (0, 0)).2) := (World.cell?_of_block (a := ⟨b, off + k * 2 + 1, none⟩) HK.out).trans hcx.2
      clear hcx
      have hT := filter_take (by omega : k < l.length) rfl
      generalize l.getD k (0, 0) = x at hc1 hc2 hT
      have HT := Lib.hid hT
      have HP := Lib.hid (filter_prefix l (k + 1))
      clear hT
      obtain ⟨lo, hi⟩ := x
      gi_wp2_with fail
      refine ⟨trivial, rfl, (callsIn_wide.2 (none_any lo hi _)).mono ?_⟩
      rintro e w1 ⟨rfl, hb⟩
      have hz := hb.size
      rw [World.size_alloc] at hb hz
      have hx1 : w1.cell? ⟨wr.heap.size, 0, none⟩ = some (.int .u64 lo) := cell_below hb (by simp [go_sem]) (by omega)
      have hx2 : w1.cell? ⟨wr.heap.size, 1, none⟩ = some (.int .u64 hi) := cell_below hb (by simp [go_sem]) (by omega)
      have ho : Only (fun _ => False) wr w1 := (Only.alloc _ _ _).trans (Only.of_all (by rw [World.size_alloc]; exact hb) _)
      have HO := Lib.hid ho
      have hbl : b < wr.heap.size := World.block_lt_of_cell? wr _ hc1
      have hkeep1 := Lib.hid ((ho.block b hbl (fun h => h)).trans HK.out)
      clear hb ho hc1 hc2
      have hj1 := Lib.hid (HJ.out _ _ (fun _ => False) wr w1 HJr.out HO.out (fun _ h => h.elim))
      by_cases hok : lo ≤ hi
      · have HT2 : Hid ((l.take (k + 1)).filter ok = (l.take k).filter ok ++ [(lo, hi)]) := Lib.hid (by rw [HT.out, if_pos (show ok (lo, hi) from hok)])
        have d1 : decide (hi < lo) = false := decide_eq_false (by omega)
        obtain ⟨fn, tmps, assign, body, hy, hR⟩ := HY.out _ (lo, hi) w1 (by rw [← HT2.out]; exact HP.out) (by omega) hj1.out
        have hy : (Instr.yield lp #[.agg #[.int .u64 lo, .int .u64 hi]]).run Try.prog w1 = .ok (.round lp fn tmps assign body) w1 := hy
        gi_wp2
        refine ⟨rfl, hR.mono ?_⟩
        rintro e W3 ⟨ho3, ⟨rfl, hJ3⟩ | ⟨rfl, hJx3⟩⟩
        · have HO3 := Lib.hid ho3
          have HJ3 := Lib.hid hJ3
          have hs3 := ho3.size
          clear ho3 hJ3
          gi_wp2
          go_roundw
          case rel => exact ⟨k + 1, by omega, by simp, by omega, (HO3.out.block b (by omega) (fun h => h (.inr rfl))).trans hkeep1.out, by rw [HT2.out]; exact HJ3.out⟩
          case measure => simp [intOf]; omega
        · have HO3 := Lib.hid ho3
          have HJ3 := Lib.hid hJx3
          have hs3 := ho3.size
          clear ho3 hJx3
          gi_wp2
          refine bodyPost_ret (results_none rfl _ _ _) rfl ?_
          exact ⟨⟨_, rfl⟩, by omega, .inr ⟨_, by rw [← HT2.out]; exact HP.out, HJ3.out⟩⟩
      · have HT2 : Hid ((l.take (k + 1)).filter ok = (l.take k).filter ok) := Lib.hid (by rw [HT.out, if_neg (show ¬ ok (lo, hi) from hok), List.append_nil])
        have d1 : decide (hi < lo) = true := decide_eq_true (by omega)
        gi_wp2
        refine ⟨fun _ h => (by cases h), ?_⟩
        gi_wp2
        go_roundw
        case rel => exact ⟨k + 1, by omega, by simp, by omega, hkeep1.out, by rw [HT2.out]; exact hj1.out⟩
        case measure => simp [intOf]; omega
    · obtain rfl : k = n := by omega
      gi_wp2
      go_end0
      exact ⟨⟨_, rfl⟩, hsz, .inl (by have := HJr.out; rwa [← hl, List.take_length] at this)⟩

set_option maxHeartbeats 1000000 in
theorem walk1_nil (Bs cap : Nat) (a : Option Addr) (lp : Nat) (J : World → Prop) (W : World) (hBs : W.cell? ⟨Bs, 0, none⟩ = some (.slice a 0 cap)) (h0 : J W) :
    CallsIn Fence.wide 0 Try.prog 65 #[.func (.yield lp) #[] #[], .pointer (some ⟨Bs, 0, none⟩)] W fun e B => (∃ v, e = .returned v) ∧ B = W := by
  refine callsIn_of_wp Try.func65 rfl trivial ?_ rfl
  simp only [Try.ntmps65, List.size_toArray, List.length_cons, List.length_nil, Nat.reduceAdd, Nat.reduceSub, Array.replicate_succ, Array.replicate_zero, List.push_toArray, List.append_toArray, List.nil_append, List.cons_append]
  gi_wp2
  gi_loopw [7] (fun i wr => i = .int .i64 0 ∧ wr = W) (fun _ _ => 0)
  case atStart => exact ⟨rfl, rfl⟩
  case round =>
    obtain ⟨rfl, rfl⟩ := hrel
    gi_wp2
    go_end0
    exact ⟨⟨_, rfl⟩, rfl⟩

/-- The iterator that walk tells. -/
theorem walk_iter (Bs : Nat) (v : Value) (l : List Ran) (w : World) (hl : l.length ≤ 1000) (hBs : w.cell? ⟨Bs, 0, none⟩ = some v) (hrd : Rd w v l) :
    Iter Try.prog 65 #[.pointer (some ⟨Bs, 0, none⟩)] (l.filter ok) (fun k => k = Bs ∨ Blk v k) w := by
  intro lp J Jx W hR hsz hJ hJx hY h0
  obtain ⟨a, cap, rfl, hcap, hrow⟩ := hrd
  have hBs' : W.cell? ⟨Bs, 0, none⟩ = some (.slice a l.length cap) := (World.cell?_of_block (a := ⟨Bs, 0, none⟩) (hR Bs (.inl rfl))).trans hBs
  by_cases hnil : l = []
  · subst hnil
    refine (walk1_nil Bs cap a lp (fun _ => True) W hBs' trivial).mono ?_
    rintro e B ⟨hv, rfl⟩
    exact ⟨hv, fun _ => False, ⟨Nat.le_refl _, fun k h => h.elim⟩, .inl h0⟩
  · obtain ⟨b, off, rfl, hc⟩ := hrow hnil
    have hpos : 0 < l.length := List.length_pos_iff.2 hnil
    have hb := hR b (.inr ⟨hpos, rfl⟩)
    refine (walk1_row Bs b off cap l.length l rfl hl lp J Jx W hBs' (fun i hi => ⟨(World.cell?_of_block (a := ⟨b, off + i * 2, none⟩) hb).trans (hc i hi).1, (World.cell?_of_block (a := ⟨b, off + i * 2 + 1, none⟩) hb).trans (hc i hi).2⟩) hJ ?_ h0).mono ?_
    · intro pre x A hp hs hj
      refine YieldAt.mono (hY pre x (fun _ => False) A hp ⟨hs, fun k h => h.elim⟩ hj) ?_
      rintro e B ⟨ho, h⟩
      refine ⟨ho.mono (fun k hk => fun h' => hk.2 ?_), h⟩
      rcases h' with rfl | rfl
      · exact .inl rfl
      · exact .inr ⟨hpos, rfl⟩
    · rintro e B ⟨hv, hs, h⟩
      exact ⟨hv, fun _ => False, ⟨hs, fun k h => h.elim⟩, h⟩
end Go.Proofs.Ytedijfcagkedaaa.Rg
