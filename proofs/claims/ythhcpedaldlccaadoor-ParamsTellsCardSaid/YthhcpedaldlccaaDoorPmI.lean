/- The walks of layer 5: the iterator over the pairs of bytes. -/
import Derived.Test.YthhcpedaldlccaaDoorItL
import Derived.Test.YthhcpedaldlccaaDoorPmG
import Derived.TacticsInMore
import Derived.LoopIn
namespace Go.Proofs.YthhcpedaldlccaaDoor.Pm
open Go.RowKit Vm It
set_option linter.unusedVariables false
set_option linter.unusedSimpArgs false

/-- A pair that is handed on, and whether it is whole. -/
def encP : Option (Nat × List UInt8) → Array Value
  | some (n, v) => #[.agg #[.int .u64 (n : Nat), .string ⟨v.toArray⟩], .bool true]
  | none => #[.agg #[.int .u64 0, .string ⟨#[]⟩], .bool false]
theorem tlb_yes : (⟨#[]⟩ : ByteArray).toList.isEmpty = true := empty_yes _ rfl
def strLen : Value → Nat
  | .string s => s.data.toList.length
  | _ => 0
theorem pairs_any (l : List UInt8) (w : World) : Calls Tryd.prog 23 #[.string ⟨l.toArray⟩] w fun e w' =>
    e = .returned (.func (.func 35) #[] #[.pointer (some ⟨w.heap.size, 0, none⟩)]) ∧ w' = w.alloc (.cells #[.string ⟨l.toArray⟩] 9) := by
  have hmf : ∀ (fn : Fn) (first cap : Array Value) (w : World), (Instr.makeFunc fn first cap).run Tryd.prog w = .ok (.func fn first cap) w := fun _ _ _ _ => rfl
  go_enter Tryd.func23, Tryd.ntmps23
  go_wp2
  go_ret
  exact ⟨rfl, rfl⟩
attribute [local go_sem] Oper.semAt_some
set_option maxHeartbeats 2000000 in
theorem pairs1_row (Bs : Nat) (l : List UInt8) (hl : l.length ≤ 4000) (lp : Nat) (J Jx : List (Option (Nat × List UInt8)) → (Nat → Prop) → World → Prop) (W : World) (ht : Tab W)
    (hBs : W.cell? ⟨Bs, 0, none⟩ = some (.string ⟨l.toArray⟩)) (hJ : Stable J)
    (hY : ∀ pre x A, pre ++ [x] <+: prs l.length l → W.heap.size ≤ A.heap.size → J pre (fun _ => False) A →
      YieldAt Fence.wide 0 Tryd.prog lp (encP x) A fun e B => Only (fun k => ¬ (k = Bs ∨ k = 1)) A B ∧ ((e = .returned (.bool true) ∧ J (pre ++ [x]) (fun _ => False) B) ∨ (e = .returned (.bool false) ∧ Jx (pre ++ [x]) (fun _ => False) B)))
    (h0 : J [] (fun _ => False) W) :
    CallsIn Fence.wide 0 Tryd.prog 35 #[.func (.yield lp) #[] #[], .pointer (some ⟨Bs, 0, none⟩)] W fun e B => (∃ v, e = .returned v) ∧ W.heap.size ≤ B.heap.size ∧ (J (prs l.length l) (fun _ => False) B ∨ ∃ pre, pre <+: prs l.length l ∧ Jx pre (fun _ => False) B) := by
  have hlt := ht.lt
  have HT := Lib.hid ht
  have HJ := Lib.hid hJ
  have HY := Lib.hid hY
  have H0 := Lib.hid h0
  clear hJ hY h0 ht
  refine callsIn_of_wp Tryd.func35 rfl trivial ?_ rfl
  simp only [Tryd.ntmps35, List.size_toArray, List.length_cons, List.length_nil, Nat.reduceAdd, Nat.reduceSub, Array.replicate_succ, Array.replicate_zero, List.push_toArray, List.append_toArray, List.nil_append, List.cons_append]
  gi_wp2
  gi_loopw [3] (fun i wr => ∃ (pre : List (Option (Nat × List UInt8))) (r : List UInt8), i = .string ⟨r.toArray⟩ ∧ r.length ≤ 4000 ∧ prs l.length l = pre ++ prs r.length r ∧ W.heap.size ≤ wr.heap.size ∧ wr.heap[1]? = W.heap[1]? ∧ J pre (fun _ => False) wr)
    (fun i _ => strLen i)
  case atStart => exact ⟨[], l, rfl, hl, rfl, Nat.le_refl _, rfl, H0.out⟩
  case round =>
    obtain ⟨pre, r, rfl, hr, hpre, hsz, hkeep, hj⟩ := hrel
    have HTr : Hid (Tab wr) := Lib.hid ⟨(World.cell?_of_block hkeep).trans HT.out.1, (World.cell?_of_block hkeep).trans HT.out.2.1, (World.cell?_of_block hkeep).trans HT.out.2.2.1, (World.cell?_of_block hkeep).trans HT.out.2.2.2⟩
    have HJr := Lib.hid hj
    have HK := Lib.hid hkeep
    have HP := Lib.hid hpre
    clear hj hkeep hpre
    by_cases hn : r = []
    · subst hn
      have he := tlb_yes
      gi_wp2
      go_end0
      exact ⟨⟨_, rfl⟩, hsz, .inl (by rw [HP.out, prs_nil, List.append_nil]; exact HJr.out)⟩
    · have he : (!r.isEmpty) = true := by cases r with | nil => exact absurd rfl hn | cons b t => rfl
      have HN := Lib.hid hn
      clear hn
      have CP := Lib.hid (fun w ht => cutPair_any r w ht hr)
      rcases hc : cutO r with _ | ⟨n, v, r2⟩
      · have e1 : cutV r = .tuple #[.agg #[.int .u64 0, .string ⟨#[]⟩], .string ⟨#[]⟩, .bool false] := by unfold cutV; rw [hc]
        rw [e1] at CP
        have HPX : Hid (prs l.length l = pre ++ [none]) := Lib.hid (by rw [HP.out, prs_none HN.out hc])
        clear e1 hc
        gi_wp2_with fail
        refine ⟨trivial, rfl, (callsIn_wide.2 (CP.out _ HTr.out)).mono ?_⟩
        rintro e w1 ⟨rfl, hb⟩
        have hz := hb.size
        have HO : Hid (Only (fun _ => False) wr (w1.alloc (.cells #[.int .u64 0, .string ⟨#[]⟩] 54))) := Lib.hid ((Only.of_all hb _).trans (Only.alloc _ _ _))
        clear hb
        have HJ1 := Lib.hid (HJ.out _ _ (fun _ => False) wr _ HJr.out HO.out (fun _ h => h.elim))
        obtain ⟨fn, tmps, assign, body, hy, hR⟩ := HY.out _ none _ (by rw [HPX.out]; exact List.prefix_refl _) (by simp; omega) HJ1.out
        simp only [encP] at hy
        gi_wp2
        refine ⟨rfl, hR.mono ?_⟩
        rintro e W3 ⟨ho3, ⟨rfl, hJ3⟩ | ⟨rfl, hJx3⟩⟩
        · have HJ3 := Lib.hid hJ3
          have hs3 := ho3.size
          rw [World.size_alloc] at hs3
          clear ho3 hJ3
          gi_wp2
          refine bodyPost_ret (results_none rfl _ _ _) rfl ?_
          exact ⟨⟨_, rfl⟩, by omega, .inl (by rw [HPX.out]; exact HJ3.out)⟩
        · have HJ3 := Lib.hid hJx3
          have hs3 := ho3.size
          rw [World.size_alloc] at hs3
          clear ho3 hJx3
          gi_wp2
          refine bodyPost_ret (results_none rfl _ _ _) rfl ?_
          exact ⟨⟨_, rfl⟩, by omega, .inr ⟨_, by rw [HPX.out]; exact List.prefix_refl _, HJ3.out⟩⟩
      · have e1 : cutV r = .tuple #[.agg #[.int .u64 (n : Nat), .string ⟨v.toArray⟩], .string ⟨r2.toArray⟩, .bool true] := by unfold cutV; rw [hc]
        rw [e1] at CP
        have HPX : Hid (prs l.length l = (pre ++ [some (n, v)]) ++ prs r2.length r2) := Lib.hid (by rw [HP.out, prs_some HN.out hc]; simp)
        have hlen := cutO_len hc
        clear e1 hc
        gi_wp2_with fail
        refine ⟨trivial, rfl, (callsIn_wide.2 (CP.out _ HTr.out)).mono ?_⟩
        rintro e w1 ⟨rfl, hb⟩
        have hz := hb.size
        have HO : Hid (Only (fun _ => False) wr (w1.alloc (.cells #[.int .u64 (n : Nat), .string ⟨v.toArray⟩] 54))) := Lib.hid ((Only.of_all hb _).trans (Only.alloc _ _ _))
        have HK1 : Hid ((w1.alloc (.cells #[.int .u64 (n : Nat), .string ⟨v.toArray⟩] 54)).heap[1]? = W.heap[1]?) := Lib.hid ((HO.out.block _ (by omega) (fun h => h)).trans HK.out)
        clear hb
        have HJ1 := Lib.hid (HJ.out _ _ (fun _ => False) wr _ HJr.out HO.out (fun _ h => h.elim))
        obtain ⟨fn, tmps, assign, body, hy, hR⟩ := HY.out _ (some (n, v)) _ (by rw [HPX.out]; exact List.prefix_append _ _) (by simp; omega) HJ1.out
        simp only [encP] at hy
        gi_wp2
        refine ⟨rfl, hR.mono ?_⟩
        rintro e W3 ⟨ho3, ⟨rfl, hJ3⟩ | ⟨rfl, hJx3⟩⟩
        · have HJ3 := Lib.hid hJ3
          have hs3 := ho3.size
          rw [World.size_alloc] at hs3
          have HK3 := Lib.hid ((ho3.block 1 (by rw [World.size_alloc]; omega) (fun h => h (.inr rfl))).trans HK1.out)
          clear ho3 hJ3
          gi_wp2
          go_roundw
          case rel => exact ⟨_, r2, rfl, by omega, HPX.out, by omega, HK3.out, HJ3.out⟩
          case measure =>
            show r2.length < r.length
            omega
        · have HJ3 := Lib.hid hJx3
          have hs3 := ho3.size
          rw [World.size_alloc] at hs3
          clear ho3 hJx3
          gi_wp2
          refine bodyPost_ret (results_none rfl _ _ _) rfl ?_
          exact ⟨⟨_, rfl⟩, by omega, .inr ⟨_, by rw [HPX.out]; exact List.prefix_append _ _, HJ3.out⟩⟩
/-- The iterator that pairs tells. -/
theorem pairs_iter (Bs : Nat) (l : List UInt8) (w : World) (hl : l.length ≤ 4000) (ht : Tab w) (hBs : w.cell? ⟨Bs, 0, none⟩ = some (.string ⟨l.toArray⟩)) :
    Iter encP Tryd.prog 35 #[.pointer (some ⟨Bs, 0, none⟩)] (prs l.length l) (fun k => k = Bs ∨ k = 1) w := by
  intro lp J Jx W hR hsz hJ hJx hY h0
  have hk := hR 1 (.inr rfl)
  have ht2 : Tab W := ⟨(World.cell?_of_block hk).trans ht.1, (World.cell?_of_block hk).trans ht.2.1, (World.cell?_of_block hk).trans ht.2.2.1, (World.cell?_of_block hk).trans ht.2.2.2⟩
  refine (pairs1_row Bs l hl lp J Jx W ht2 ((World.cell?_of_block (a := ⟨Bs, 0, none⟩) (hR Bs (.inl rfl))).trans hBs) hJ ?_ h0).mono ?_
  · intro pre x A hp hs hj
    refine YieldAt.mono (hY pre x (fun _ => False) A hp ⟨hs, fun k h => h.elim⟩ hj) ?_
    rintro e B ⟨ho, h⟩
    exact ⟨ho.mono (fun k hk h' => hk.2 h'), h⟩
  · rintro e B ⟨hv, hs, h⟩
    exact ⟨hv, fun _ => False, ⟨hs, fun k h => h.elim⟩, h⟩
end Go.Proofs.YthhcpedaldlccaaDoor.Pm
