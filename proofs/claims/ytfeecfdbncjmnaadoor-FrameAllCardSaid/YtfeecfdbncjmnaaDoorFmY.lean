/- The walks of layer 6: numbers of the call's own, put. -/
import Derived.Test.YtfeecfdbncjmnaaDoorFmW
import Derived.Test.YtfeecfdbncjmnaaDoorVmP
namespace Go.Proofs.YtfeecfdbncjmnaaDoor.Fm
set_option maxRecDepth 20000
open Go.RowKit Vm
set_option linter.unusedVariables false
set_option linter.unusedSimpArgs false

theorem infoW : (Tryd.prog.info? 23).map (fun i => (i.zero, i.size, i.bytes)) = some (some (.int .u64 0), 1, 8) := by kernel_rfl
/-- A slice of numbers of the call's own. -/
def numV (l : List Int) : List Value := l.map fun n => .int .u64 n
def OwnW (w : World) (B : Nat) (v : Value) (l : List Int) : Prop := w.ownsRow B 23 1 v l.length (numV l)
theorem push_W (w : World) (B : Nat) (v : Value) (l : List Int) (n : Int) (ty : TypeId) (h : OwnW w B v l) (hl : l.length ≤ 1000) (hb : B ≤ w.heap.size) :
    ∃ v' w', (Builtin.append_ #[92, 92] ty #[v, .slice (some ⟨w.heap.size, 0, none⟩) 1 1]).run Tryd.prog (w.alloc (.cells #[.int .u64 n] 23)) = .ok v' w' ∧ OwnW w' B v' (l ++ [n]) ∧ Below B w w' := by
  obtain ⟨i0, hi, hz0, hz1, hz2⟩ := info_parts infoW
  have ho := World.ownsRow.alloc h (.cells #[.int .u64 n] 23)
  obtain ⟨v', w', hr, h1, h2, h3⟩ := run_append_own (P := Tryd.prog) (w.alloc (.cells #[.int .u64 n] 23)) B 92 ty 23 i0 (.int .u64 0) 1 8 Tryd.underlying92 hi hz0 hz1 hz2 rfl (by decide) _ l.length (numV l) ho ⟨w.heap.size, 0, none⟩ 1 1 [.int .u64 n] rfl
    (by
      intro j u hu
      have e : (⟨w.heap.size, 0, none⟩ : Addr).add j = ⟨w.heap.size, j, none⟩ := by unfold Addr.add; split <;> simp_all
      rw [e, cell_of_row _ _ _ _ _ _ (heap_alloc_new w _), ← hu]
      simp) (by intro u hu; simp only [List.mem_cons, List.not_mem_nil, or_false] at hu; rcases hu with rfl; rfl) (by unfold maxLen; omega) (by omega) (by simp; omega)
  have e : numV (l ++ [n]) = numV l ++ [.int .u64 n] := by unfold numV; rw [List.map_append]; rfl
  refine ⟨v', w', hr, ?_, ?_⟩
  · unfold OwnW
    rw [e, List.length_append]
    exact h1
  · exact ((Below.refl _ _).alloc hb _).grown h2 (by simp; omega) (fun k hk => (World.ownsRow.lt h k hk).1)
/-- The numbers of a frame that the parts have, of the first so many. -/
def chN (p : Nat) (f : Frm) : Nat → List Int
  | 0 => []
  | i + 1 => if p.testBit i = true then chN p f i ++ [nm f i] else chN p f i
theorem chN_len (p : Nat) (f : Frm) : ∀ i, (chN p f i).length ≤ i
  | 0 => Nat.le_refl _
  | i + 1 => by
    have := chN_len p f i
    rw [chN]
    split
    · rw [List.length_append]; simp; omega
    · omega
set_option maxHeartbeats 8000000 in
theorem chosen_any (p : Nat) (hp : p < 8192) (f : Frm) (w : World) : Calls Tryd.prog 48 #[.agg #[.int .u64 f.kind, .int .u64 f.id, .int .u64 f.off, .int .u64 f.max, .int .u64 f.code, .int .u64 f.seq, .int .u64 f.prior, .int .u64 f.delay, .bool f.fin, .string ⟨f.data.toArray⟩, .string ⟨f.cid.toArray⟩, .string ⟨f.token.toArray⟩, .slice f.set.a f.set.n f.set.c], .int .u64 (p : Nat)] w fun e w' => ∃ v, e = .returned v ∧ OwnW w' w.heap.size v (chN p f 7) ∧ Below w.heap.size w w' := by
  have CN := Lib.hid (fun w => numbers_any f w)
  have hI0 := fun (u : World) => run_index_num7 #[.int .u64 f.id, .int .u64 f.off, .int .u64 f.code, .int .u64 f.max, .int .u64 f.seq, .int .u64 f.prior, .int .u64 f.delay] 0 (.int .u64 f.id) u (by decide) rfl
  have hI1 := fun (u : World) => run_index_num7 #[.int .u64 f.id, .int .u64 f.off, .int .u64 f.code, .int .u64 f.max, .int .u64 f.seq, .int .u64 f.prior, .int .u64 f.delay] 1 (.int .u64 f.off) u (by decide) rfl
  have hI2 := fun (u : World) => run_index_num7 #[.int .u64 f.id, .int .u64 f.off, .int .u64 f.code, .int .u64 f.max, .int .u64 f.seq, .int .u64 f.prior, .int .u64 f.delay] 2 (.int .u64 f.code) u (by decide) rfl
  have hI3 := fun (u : World) => run_index_num7 #[.int .u64 f.id, .int .u64 f.off, .int .u64 f.code, .int .u64 f.max, .int .u64 f.seq, .int .u64 f.prior, .int .u64 f.delay] 3 (.int .u64 f.max) u (by decide) rfl
  have hI4 := fun (u : World) => run_index_num7 #[.int .u64 f.id, .int .u64 f.off, .int .u64 f.code, .int .u64 f.max, .int .u64 f.seq, .int .u64 f.prior, .int .u64 f.delay] 4 (.int .u64 f.seq) u (by decide) rfl
  have hI5 := fun (u : World) => run_index_num7 #[.int .u64 f.id, .int .u64 f.off, .int .u64 f.code, .int .u64 f.max, .int .u64 f.seq, .int .u64 f.prior, .int .u64 f.delay] 5 (.int .u64 f.prior) u (by decide) rfl
  have hI6 := fun (u : World) => run_index_num7 #[.int .u64 f.id, .int .u64 f.off, .int .u64 f.code, .int .u64 f.max, .int .u64 f.seq, .int .u64 f.prior, .int .u64 f.delay] 6 (.int .u64 f.delay) u (by decide) rfl
  go_enter Tryd.func48, Tryd.ntmps48
  go_wp2_with fail
  refine (CN.out _).mono ?_
  rintro e w1 ⟨rfl, hb⟩
  have HB1 := Lib.hid (((Below.refl w.heap.size w).alloc (Nat.le_refl _) _).trans (hb.mono (by simp)))
  clear hb
  go_wp2
  go_loopw [5, 10] (fun tv iv wr => ∃ k : Nat, k ≤ 7 ∧ iv = .int .i64 (k : Nat) ∧ OwnW wr w.heap.size tv (chN p f k) ∧ Below w.heap.size w wr) (fun _ iv _ => 7 - (intOf iv).toNat)
  case atStart => exact ⟨0, by decide, rfl, ⟨rfl, .inl ⟨rfl, rfl⟩⟩, HB1.out⟩
  case round =>
    obtain ⟨k, hk, rfl, ho, hb⟩ := hrel
    have HO := Lib.hid ho
    have HB := Lib.hid hb
    have hsz := hb.size
    clear ho hb
    match k, hk with
    | 0, _ =>
      have BT := Lib.hid (bit_0 p hp)
      have hlen := chN_len p f 0
      cases hbit : p.testBit 0 with
      | true =>
        rw [hbit] at BT
        have HX : Hid (chN p f 1 = chN p f 0 ++ [f.id]) := Lib.hid (by rw [chN]; exact if_pos hbit)
        clear hbit
        go_wp2_with fail
        erw [hI0]
        go_wp2_with fail
        refine (BT.out _).mono ?_
        rintro e w4 ⟨rfl, rfl⟩
        obtain ⟨v', w5, hr, ho5, hb5⟩ := push_W _ w.heap.size _ (chN p f 0) f.id 92 HO.out (by omega) hsz
        have HA := Lib.hid hr
        have HO5 := Lib.hid ho5
        have HB5 := Lib.hid (HB.out.trans hb5)
        clear hr ho5 hb5
        go_wp2_with (at_builtin; refine Lib.wpList_append_run _ rfl _ _ _ _ rfl _ _ rfl rfl _ _ HA.out ?_)
        go_roundw
        case rel => exact ⟨1, by decide, rfl, by rw [HX.out]; exact HO5.out, HB5.out⟩
        case measure => simp [intOf]
      | false =>
        rw [hbit] at BT
        have HX : Hid (chN p f 1 = chN p f 0) := Lib.hid (by rw [chN]; exact if_neg (by rw [hbit]; decide))
        clear hbit
        go_wp2_with fail
        erw [hI0]
        go_wp2_with fail
        refine (BT.out _).mono ?_
        rintro e w4 ⟨rfl, rfl⟩
        go_wp2
        go_roundw
        case rel => exact ⟨1, by decide, rfl, by rw [HX.out]; exact HO.out, HB.out⟩
        case measure => simp [intOf]
    | 1, _ =>
      have BT := Lib.hid (bit_1 p hp)
      have hlen := chN_len p f 1
      cases hbit : p.testBit 1 with
      | true =>
        rw [hbit] at BT
        have HX : Hid (chN p f 2 = chN p f 1 ++ [f.off]) := Lib.hid (by rw [chN]; exact if_pos hbit)
        clear hbit
        go_wp2_with fail
        erw [hI1]
        go_wp2_with fail
        refine (BT.out _).mono ?_
        rintro e w4 ⟨rfl, rfl⟩
        obtain ⟨v', w5, hr, ho5, hb5⟩ := push_W _ w.heap.size _ (chN p f 1) f.off 92 HO.out (by omega) hsz
        have HA := Lib.hid hr
        have HO5 := Lib.hid ho5
        have HB5 := Lib.hid (HB.out.trans hb5)
        clear hr ho5 hb5
        go_wp2_with (at_builtin; refine Lib.wpList_append_run _ rfl _ _ _ _ rfl _ _ rfl rfl _ _ HA.out ?_)
        go_roundw
        case rel => exact ⟨2, by decide, rfl, by rw [HX.out]; exact HO5.out, HB5.out⟩
        case measure => simp [intOf]
      | false =>
        rw [hbit] at BT
        have HX : Hid (chN p f 2 = chN p f 1) := Lib.hid (by rw [chN]; exact if_neg (by rw [hbit]; decide))
        clear hbit
        go_wp2_with fail
        erw [hI1]
        go_wp2_with fail
        refine (BT.out _).mono ?_
        rintro e w4 ⟨rfl, rfl⟩
        go_wp2
        go_roundw
        case rel => exact ⟨2, by decide, rfl, by rw [HX.out]; exact HO.out, HB.out⟩
        case measure => simp [intOf]
    | 2, _ =>
      have BT := Lib.hid (bit_2 p hp)
      have hlen := chN_len p f 2
      cases hbit : p.testBit 2 with
      | true =>
        rw [hbit] at BT
        have HX : Hid (chN p f 3 = chN p f 2 ++ [f.code]) := Lib.hid (by rw [chN]; exact if_pos hbit)
        clear hbit
        go_wp2_with fail
        erw [hI2]
        go_wp2_with fail
        refine (BT.out _).mono ?_
        rintro e w4 ⟨rfl, rfl⟩
        obtain ⟨v', w5, hr, ho5, hb5⟩ := push_W _ w.heap.size _ (chN p f 2) f.code 92 HO.out (by omega) hsz
        have HA := Lib.hid hr
        have HO5 := Lib.hid ho5
        have HB5 := Lib.hid (HB.out.trans hb5)
        clear hr ho5 hb5
        go_wp2_with (at_builtin; refine Lib.wpList_append_run _ rfl _ _ _ _ rfl _ _ rfl rfl _ _ HA.out ?_)
        go_roundw
        case rel => exact ⟨3, by decide, rfl, by rw [HX.out]; exact HO5.out, HB5.out⟩
        case measure => simp [intOf]
      | false =>
        rw [hbit] at BT
        have HX : Hid (chN p f 3 = chN p f 2) := Lib.hid (by rw [chN]; exact if_neg (by rw [hbit]; decide))
        clear hbit
        go_wp2_with fail
        erw [hI2]
        go_wp2_with fail
        refine (BT.out _).mono ?_
        rintro e w4 ⟨rfl, rfl⟩
        go_wp2
        go_roundw
        case rel => exact ⟨3, by decide, rfl, by rw [HX.out]; exact HO.out, HB.out⟩
        case measure => simp [intOf]
    | 3, _ =>
      have BT := Lib.hid (bit_3 p hp)
      have hlen := chN_len p f 3
      cases hbit : p.testBit 3 with
      | true =>
        rw [hbit] at BT
        have HX : Hid (chN p f 4 = chN p f 3 ++ [f.max]) := Lib.hid (by rw [chN]; exact if_pos hbit)
        clear hbit
        go_wp2_with fail
        erw [hI3]
        go_wp2_with fail
        refine (BT.out _).mono ?_
        rintro e w4 ⟨rfl, rfl⟩
        obtain ⟨v', w5, hr, ho5, hb5⟩ := push_W _ w.heap.size _ (chN p f 3) f.max 92 HO.out (by omega) hsz
        have HA := Lib.hid hr
        have HO5 := Lib.hid ho5
        have HB5 := Lib.hid (HB.out.trans hb5)
        clear hr ho5 hb5
        go_wp2_with (at_builtin; refine Lib.wpList_append_run _ rfl _ _ _ _ rfl _ _ rfl rfl _ _ HA.out ?_)
        go_roundw
        case rel => exact ⟨4, by decide, rfl, by rw [HX.out]; exact HO5.out, HB5.out⟩
        case measure => simp [intOf]
      | false =>
        rw [hbit] at BT
        have HX : Hid (chN p f 4 = chN p f 3) := Lib.hid (by rw [chN]; exact if_neg (by rw [hbit]; decide))
        clear hbit
        go_wp2_with fail
        erw [hI3]
        go_wp2_with fail
        refine (BT.out _).mono ?_
        rintro e w4 ⟨rfl, rfl⟩
        go_wp2
        go_roundw
        case rel => exact ⟨4, by decide, rfl, by rw [HX.out]; exact HO.out, HB.out⟩
        case measure => simp [intOf]
    | 4, _ =>
      have BT := Lib.hid (bit_4 p hp)
      have hlen := chN_len p f 4
      cases hbit : p.testBit 4 with
      | true =>
        rw [hbit] at BT
        have HX : Hid (chN p f 5 = chN p f 4 ++ [f.seq]) := Lib.hid (by rw [chN]; exact if_pos hbit)
        clear hbit
        go_wp2_with fail
        erw [hI4]
        go_wp2_with fail
        refine (BT.out _).mono ?_
        rintro e w4 ⟨rfl, rfl⟩
        obtain ⟨v', w5, hr, ho5, hb5⟩ := push_W _ w.heap.size _ (chN p f 4) f.seq 92 HO.out (by omega) hsz
        have HA := Lib.hid hr
        have HO5 := Lib.hid ho5
        have HB5 := Lib.hid (HB.out.trans hb5)
        clear hr ho5 hb5
        go_wp2_with (at_builtin; refine Lib.wpList_append_run _ rfl _ _ _ _ rfl _ _ rfl rfl _ _ HA.out ?_)
        go_roundw
        case rel => exact ⟨5, by decide, rfl, by rw [HX.out]; exact HO5.out, HB5.out⟩
        case measure => simp [intOf]
      | false =>
        rw [hbit] at BT
        have HX : Hid (chN p f 5 = chN p f 4) := Lib.hid (by rw [chN]; exact if_neg (by rw [hbit]; decide))
        clear hbit
        go_wp2_with fail
        erw [hI4]
        go_wp2_with fail
        refine (BT.out _).mono ?_
        rintro e w4 ⟨rfl, rfl⟩
        go_wp2
        go_roundw
        case rel => exact ⟨5, by decide, rfl, by rw [HX.out]; exact HO.out, HB.out⟩
        case measure => simp [intOf]
    | 5, _ =>
      have BT := Lib.hid (bit_5 p hp)
      have hlen := chN_len p f 5
      cases hbit : p.testBit 5 with
      | true =>
        rw [hbit] at BT
        have HX : Hid (chN p f 6 = chN p f 5 ++ [f.prior]) := Lib.hid (by rw [chN]; exact if_pos hbit)
        clear hbit
        go_wp2_with fail
        erw [hI5]
        go_wp2_with fail
        refine (BT.out _).mono ?_
        rintro e w4 ⟨rfl, rfl⟩
        obtain ⟨v', w5, hr, ho5, hb5⟩ := push_W _ w.heap.size _ (chN p f 5) f.prior 92 HO.out (by omega) hsz
        have HA := Lib.hid hr
        have HO5 := Lib.hid ho5
        have HB5 := Lib.hid (HB.out.trans hb5)
        clear hr ho5 hb5
        go_wp2_with (at_builtin; refine Lib.wpList_append_run _ rfl _ _ _ _ rfl _ _ rfl rfl _ _ HA.out ?_)
        go_roundw
        case rel => exact ⟨6, by decide, rfl, by rw [HX.out]; exact HO5.out, HB5.out⟩
        case measure => simp [intOf]
      | false =>
        rw [hbit] at BT
        have HX : Hid (chN p f 6 = chN p f 5) := Lib.hid (by rw [chN]; exact if_neg (by rw [hbit]; decide))
        clear hbit
        go_wp2_with fail
        erw [hI5]
        go_wp2_with fail
        refine (BT.out _).mono ?_
        rintro e w4 ⟨rfl, rfl⟩
        go_wp2
        go_roundw
        case rel => exact ⟨6, by decide, rfl, by rw [HX.out]; exact HO.out, HB.out⟩
        case measure => simp [intOf]
    | 6, _ =>
      have BT := Lib.hid (bit_6 p hp)
      have hlen := chN_len p f 6
      cases hbit : p.testBit 6 with
      | true =>
        rw [hbit] at BT
        have HX : Hid (chN p f 7 = chN p f 6 ++ [f.delay]) := Lib.hid (by rw [chN]; exact if_pos hbit)
        clear hbit
        go_wp2_with fail
        erw [hI6]
        go_wp2_with fail
        refine (BT.out _).mono ?_
        rintro e w4 ⟨rfl, rfl⟩
        obtain ⟨v', w5, hr, ho5, hb5⟩ := push_W _ w.heap.size _ (chN p f 6) f.delay 92 HO.out (by omega) hsz
        have HA := Lib.hid hr
        have HO5 := Lib.hid ho5
        have HB5 := Lib.hid (HB.out.trans hb5)
        clear hr ho5 hb5
        go_wp2_with (at_builtin; refine Lib.wpList_append_run _ rfl _ _ _ _ rfl _ _ rfl rfl _ _ HA.out ?_)
        go_roundw
        case rel => exact ⟨7, by decide, rfl, by rw [HX.out]; exact HO5.out, HB5.out⟩
        case measure => simp [intOf]
      | false =>
        rw [hbit] at BT
        have HX : Hid (chN p f 7 = chN p f 6) := Lib.hid (by rw [chN]; exact if_neg (by rw [hbit]; decide))
        clear hbit
        go_wp2_with fail
        erw [hI6]
        go_wp2_with fail
        refine (BT.out _).mono ?_
        rintro e w4 ⟨rfl, rfl⟩
        go_wp2
        go_roundw
        case rel => exact ⟨7, by decide, rfl, by rw [HX.out]; exact HO.out, HB.out⟩
        case measure => simp [intOf]
    | 7, _ =>
      go_wp2
      go_ret
      exact ⟨_, rfl, HO.out, HB.out⟩

theorem numV_get (l : List Int) (i : Nat) (hi : i < l.length) : (numV l)[i]? = some (.int .u64 (l.getD i 0)) := by
  unfold numV
  rw [List.getElem?_map, List.getElem?_eq_getElem hi, List.getD, List.getElem?_eq_getElem hi]
  rfl
theorem OwnW.row {w : World} {B : Nat} {v : Value} {l : List Int} (h : OwnW w B v l) (h0 : ∀ z ∈ l, 0 ≤ z) : (l = [] ∧ ∃ a c, v = .slice a 0 c) ∨ ∃ g c, v = .slice (some ⟨g, 0, none⟩) l.length c ∧ NumRow w g 0 l := by
  rcases h.2 with ⟨hv, hn⟩ | ⟨g, cap, cur, hv, hb, hg, hc, hr⟩
  · exact .inl ⟨List.eq_nil_of_length_eq_zero hn, _, _, hv⟩
  · subst hv
    refine .inr ⟨g, cap, rfl, (World.ownsRow.lt h g rfl).2, fun i hi => ?_⟩
    have hz : 0 ≤ l.getD i 0 := by
      rw [List.getD, List.getElem?_eq_getElem hi]
      exact h0 _ (List.getElem_mem hi)
    refine ⟨?_, hz⟩
    rw [Nat.zero_add]
    exact (World.ownsRow.cellAt h i (by omega)).trans (numV_get l i hi)
theorem fit_all {l : List Int} (h0 : ∀ z ∈ l, 0 ≤ z ∧ z ≤ 4611686018427387903) : allFit l := by
  intro z hz
  obtain ⟨h1, h2⟩ := h0 z hz
  rcases pl_cases z.toNat with ⟨hp, h1⟩ | ⟨hp, h1, h2⟩ | ⟨hp, h1, h2⟩ | ⟨hp, h1, h2⟩ | ⟨hp, h1⟩ <;> omega
theorem puts_own (B : Nat) (v : Value) (l : List Int) (w : World) (ht : Tab w) (h : OwnW w B v l) (h0 : ∀ z ∈ l, 0 ≤ z ∧ z ≤ 4611686018427387903) (hl : l.length ≤ 1000) :
    Calls Tryd.prog 61 #[v] w fun e w' => e = .returned (.tuple #[.string ⟨(pcat l).toArray⟩, .int .i64 0]) ∧ Below w.heap.size w w' := by
  rcases h.row (fun z hz => (h0 z hz).1) with ⟨rfl, a, c, rfl⟩ | ⟨g, c, rfl, hr⟩
  · refine (vputs_nil a c w).mono ?_
    rintro e w' ⟨hb, ⟨_, rfl⟩ | ⟨hf, _⟩⟩
    · exact ⟨rfl, hb⟩
    · exact absurd (fit_all h0) hf
  · refine (vputs_row g 0 c l w ht hr hl).mono ?_
    rintro e w' ⟨hb, ⟨_, rfl⟩ | ⟨hf, _⟩⟩
    · exact ⟨rfl, hb⟩
    · exact absurd (fit_all h0) hf
end Go.Proofs.YtfeecfdbncjmnaaDoor.Fm
