/- The walks of layer 6: numbers of the call's own, put. · A frame.writer's builder, told: String of one that holds a byte · Layer 6's mathematics: a frame that may be, put, is got back. Nothing of the program is walked here -/
import Derived.Test.YtoblmhpjendbfaaGreatDoorJb20
import Derived.Test.YtoblmhpjendbfaaGreatDoorRows
import Derived.Test.YtoblmhpjendbfaaGreatDoorJb18
import Derived.Test.YtoblmhpjendbfaaGreatDoorShelf
import Derived.Test.YtoblmhpjendbfaaGreatDoorJb16
import Derived.Shelf.Strings.Builder1
import Derived.Shelf.Strings.BuilderF
import Derived.Lib.Hide
namespace Go.Proofs.YtoblmhpjendbfaaGreatDoor.Fm
set_option maxRecDepth 20000
open Go.RowKit Vm
set_option linter.unusedVariables false
set_option linter.unusedSimpArgs false

theorem infoW : (Tryz.prog.info? 23).map (fun i => (i.zero, i.size, i.bytes)) = some (some (.int .u64 0), 1, 8) := by kernel_rfl
/-- A slice of numbers of the call's own. -/
def numV (l : List Int) : List Value := l.map fun n => .int .u64 n
def OwnW (w : World) (B : Nat) (v : Value) (l : List Int) : Prop := w.ownsRow B 23 1 v l.length (numV l)
theorem push_W (w : World) (B : Nat) (v : Value) (l : List Int) (n : Int) (ty : TypeId) (h : OwnW w B v l) (hl : l.length ≤ 1000) (hb : B ≤ w.heap.size) :
    ∃ v' w', (Builtin.append_ #[92, 92] ty #[v, .slice (some ⟨w.heap.size, 0, none⟩) 1 1]).run Tryz.prog (w.alloc (.cells #[.int .u64 n] 23)) = .ok v' w' ∧ OwnW w' B v' (l ++ [n]) ∧ Below B w w' := by
  obtain ⟨i0, hi, hz0, hz1, hz2⟩ := info_parts infoW
  have ho := World.ownsRow.alloc h (.cells #[.int .u64 n] 23)
  obtain ⟨v', w', hr, h1, h2, h3⟩ := run_append_own (P := Tryz.prog) (w.alloc (.cells #[.int .u64 n] 23)) B 92 ty 23 i0 (.int .u64 0) 1 8 Tryz.underlying92 hi hz0 hz1 hz2 rfl (by decide) _ l.length (numV l) ho ⟨w.heap.size, 0, none⟩ 1 1 [.int .u64 n] rfl
    (by
      intro j u hu
      have e : (⟨w.heap.size, 0, none⟩ : Addr).add j = ⟨w.heap.size, j, none⟩ := by unfold Addr.add; split <;> simp_all
      rw [e, cell_of_row _ _ _ _ _ _ (heap_alloc_new w _), ← hu]
      simp) (by intro u hu; simp only [List.mem_cons, List.not_mem_nil, or_false] at hu; rcases hu with rfl; rfl) (by unfold maxLen; omega) (by omega) (by simp; omega)
  have e : numV (l ++ [n]) = numV l ++ [.int .u64 n] := by unfold numV; rw [List.map_append]; rfl
  refine ⟨v', w', hr, ?_, ?_⟩
  · unfold OwnW
    rw [e, List.length_append]
    exact h1
  · exact ((Below.refl _ _).alloc hb _).grown h2 (by simp; omega) (fun k hk => (World.ownsRow.lt h k hk).1)
/-- The numbers of a frame that the parts have, of the first so many. -/
def chN (p : Nat) (f : Frm) : Nat → List Int
  | 0 => []
  | i + 1 => if p.testBit i = true then chN p f i ++ [nm f i] else chN p f i
theorem chN_len (p : Nat) (f : Frm) : ∀ i, (chN p f i).length ≤ i
  | 0 => Nat.le_refl _
  | i + 1 => by
    have := chN_len p f i
    rw [chN]
    split
    · rw [List.length_append]; simp; omega
    · omega
set_option maxHeartbeats 8000000 in
theorem chosen_any (p : Nat) (hp : p < 8192) (f : Frm) (w : World) : Calls Tryz.prog 130 #[.agg #[.int .u64 f.kind, .int .u64 f.id, .int .u64 f.off, .int .u64 f.max, .int .u64 f.code, .int .u64 f.seq, .int .u64 f.prior, .int .u64 f.delay, .bool f.fin, .string ⟨f.data.toArray⟩, .string ⟨f.cid.toArray⟩, .string ⟨f.token.toArray⟩, .slice f.set.a f.set.n f.set.c], .int .u64 (p : Nat)] w fun e w' => ∃ v, e = .returned v ∧ OwnW w' w.heap.size v (chN p f 7) ∧ Below w.heap.size w w' := by
  have CN := Lib.hid (fun w => numbers_any f w)
  have hI0 := fun (u : World) => run_index_num7 #[.int .u64 f.id, .int .u64 f.off, .int .u64 f.code, .int .u64 f.max, .int .u64 f.seq, .int .u64 f.prior, .int .u64 f.delay] 0 (.int .u64 f.id) u (by decide) rfl
  have hI1 := fun (u : World) => run_index_num7 #[.int .u64 f.id, .int .u64 f.off, .int .u64 f.code, .int .u64 f.max, .int .u64 f.seq, .int .u64 f.prior, .int .u64 f.delay] 1 (.int .u64 f.off) u (by decide) rfl
  have hI2 := fun (u : World) => run_index_num7 #[.int .u64 f.id, .int .u64 f.off, .int .u64 f.code, .int .u64 f.max, .int .u64 f.seq, .int .u64 f.prior, .int .u64 f.delay] 2 (.int .u64 f.code) u (by decide) rfl
  have hI3 := fun (u : World) => run_index_num7 #[.int .u64 f.id, .int .u64 f.off, .int .u64 f.code, .int .u64 f.max, .int .u64 f.seq, .int .u64 f.prior, .int .u64 f.delay] 3 (.int .u64 f.max) u (by decide) rfl
  have hI4 := fun (u : World) => run_index_num7 #[.int .u64 f.id, .int .u64 f.off, .int .u64 f.code, .int .u64 f.max, .int .u64 f.seq, .int .u64 f.prior, .int .u64 f.delay] 4 (.int .u64 f.seq) u (by decide) rfl
  have hI5 := fun (u : World) => run_index_num7 #[.int .u64 f.id, .int .u64 f.off, .int .u64 f.code, .int .u64 f.max, .int .u64 f.seq, .int .u64 f.prior, .int .u64 f.delay] 5 (.int .u64 f.prior) u (by decide) rfl
  have hI6 := fun (u : World) => run_index_num7 #[.int .u64 f.id, .int .u64 f.off, .int .u64 f.code, .int .u64 f.max, .int .u64 f.seq, .int .u64 f.prior, .int .u64 f.delay] 6 (.int .u64 f.delay) u (by decide) rfl
  go_enter Tryz.func130, Tryz.ntmps130
  go_wp2_with fail
  refine (CN.out _).mono ?_
  rintro e w1 ⟨rfl, hb⟩
  have HB1 := Lib.hid (((Below.refl w.heap.size w).alloc (Nat.le_refl _) _).trans (hb.mono (by simp)))
  clear hb
  go_wp2
  go_loopw [5, 10] (fun tv iv wr => ∃ k : Nat, k ≤ 7 ∧ iv = .int .i64 (k : Nat) ∧ OwnW wr w.heap.size tv (chN p f k) ∧ Below w.heap.size w wr) (fun _ iv _ => 7 - (intOf iv).toNat)
  case atStart => exact ⟨0, by decide, rfl, ⟨rfl, .inl ⟨rfl, rfl⟩⟩, HB1.out⟩
  case round =>
    obtain ⟨k, hk, rfl, ho, hb⟩ := hrel
    have HO := Lib.hid ho
    have HB := Lib.hid hb
    have hsz := hb.size
    clear ho hb
    match k, hk with
    | 0, _ =>
      have BT := Lib.hid (bit_0 p hp)
      have hlen := chN_len p f 0
      cases hbit : p.testBit 0 with
      | true =>
        rw [hbit] at BT
        have HX : Hid (chN p f 1 = chN p f 0 ++ [f.id]) := Lib.hid (by rw [chN]; exact if_pos hbit)
        clear hbit
        go_wp2_with fail
        erw [hI0]
        go_wp2_with fail
        refine (BT.out _).mono ?_
        rintro e w4 ⟨rfl, rfl⟩
        obtain ⟨v', w5, hr, ho5, hb5⟩ := push_W _ w.heap.size _ (chN p f 0) f.id 92 HO.out (by omega) hsz
        have HA := Lib.hid hr
        have HO5 := Lib.hid ho5
        have HB5 := Lib.hid (HB.out.trans hb5)
        clear hr ho5 hb5
        go_wp2_with (at_builtin; refine Lib.wpList_append_run _ rfl _ _ _ _ rfl _ _ rfl rfl _ _ HA.out ?_)
        go_roundw
        case rel => exact ⟨1, by decide, rfl, by rw [HX.out]; exact HO5.out, HB5.out⟩
        case measure => simp [intOf]
      | false =>
        rw [hbit] at BT
        have HX : Hid (chN p f 1 = chN p f 0) := Lib.hid (by rw [chN]; exact if_neg (by rw [hbit]; decide))
        clear hbit
        go_wp2_with fail
        erw [hI0]
        go_wp2_with fail
        refine (BT.out _).mono ?_
        rintro e w4 ⟨rfl, rfl⟩
        go_wp2
        go_roundw
        case rel => exact ⟨1, by decide, rfl, by rw [HX.out]; exact HO.out, HB.out⟩
        case measure => simp [intOf]
    | 1, _ =>
      have BT := Lib.hid (bit_1 p hp)
      have hlen := chN_len p f 1
      cases hbit : p.testBit 1 with
      | true =>
        rw [hbit] at BT
        have HX : Hid (chN p f 2 = chN p f 1 ++ [f.off]) := Lib.hid (by rw [chN]; exact if_pos hbit)
        clear hbit
        go_wp2_with fail
        erw [hI1]
        go_wp2_with fail
        refine (BT.out _).mono ?_
        rintro e w4 ⟨rfl, rfl⟩
        obtain ⟨v', w5, hr, ho5, hb5⟩ := push_W _ w.heap.size _ (chN p f 1) f.off 92 HO.out (by omega) hsz
        have HA := Lib.hid hr
        have HO5 := Lib.hid ho5
        have HB5 := Lib.hid (HB.out.trans hb5)
        clear hr ho5 hb5
        go_wp2_with (at_builtin; refine Lib.wpList_append_run _ rfl _ _ _ _ rfl _ _ rfl rfl _ _ HA.out ?_)
        go_roundw
        case rel => exact ⟨2, by decide, rfl, by rw [HX.out]; exact HO5.out, HB5.out⟩
        case measure => simp [intOf]
      | false =>
        rw [hbit] at BT
        have HX : Hid (chN p f 2 = chN p f 1) := Lib.hid (by rw [chN]; exact if_neg (by rw [hbit]; decide))
        clear hbit
        go_wp2_with fail
        erw [hI1]
        go_wp2_with fail
        refine (BT.out _).mono ?_
        rintro e w4 ⟨rfl, rfl⟩
        go_wp2
        go_roundw
        case rel => exact ⟨2, by decide, rfl, by rw [HX.out]; exact HO.out, HB.out⟩
        case measure => simp [intOf]
    | 2, _ =>
      have BT := Lib.hid (bit_2 p hp)
      have hlen := chN_len p f 2
      cases hbit : p.testBit 2 with
      | true =>
        rw [hbit] at BT
        have HX : Hid (chN p f 3 = chN p f 2 ++ [f.code]) := Lib.hid (by rw [chN]; exact if_pos hbit)
        clear hbit
        go_wp2_with fail
        erw [hI2]
        go_wp2_with fail
        refine (BT.out _).mono ?_
        rintro e w4 ⟨rfl, rfl⟩
        obtain ⟨v', w5, hr, ho5, hb5⟩ := push_W _ w.heap.size _ (chN p f 2) f.code 92 HO.out (by omega) hsz
        have HA := Lib.hid hr
        have HO5 := Lib.hid ho5
        have HB5 := Lib.hid (HB.out.trans hb5)
        clear hr ho5 hb5
        go_wp2_with (at_builtin; refine Lib.wpList_append_run _ rfl _ _ _ _ rfl _ _ rfl rfl _ _ HA.out ?_)
        go_roundw
        case rel => exact ⟨3, by decide, rfl, by rw [HX.out]; exact HO5.out, HB5.out⟩
        case measure => simp [intOf]
      | false =>
        rw [hbit] at BT
        have HX : Hid (chN p f 3 = chN p f 2) := Lib.hid (by rw [chN]; exact if_neg (by rw [hbit]; decide))
        clear hbit
        go_wp2_with fail
        erw [hI2]
        go_wp2_with fail
        refine (BT.out _).mono ?_
        rintro e w4 ⟨rfl, rfl⟩
        go_wp2
        go_roundw
        case rel => exact ⟨3, by decide, rfl, by rw [HX.out]; exact HO.out, HB.out⟩
        case measure => simp [intOf]
    | 3, _ =>
      have BT := Lib.hid (bit_3 p hp)
      have hlen := chN_len p f 3
      cases hbit : p.testBit 3 with
      | true =>
        rw [hbit] at BT
        have HX : Hid (chN p f 4 = chN p f 3 ++ [f.max]) := Lib.hid (by rw [chN]; exact if_pos hbit)
        clear hbit
        go_wp2_with fail
        erw [hI3]
        go_wp2_with fail
        refine (BT.out _).mono ?_
        rintro e w4 ⟨rfl, rfl⟩
        obtain ⟨v', w5, hr, ho5, hb5⟩ := push_W _ w.heap.size _ (chN p f 3) f.max 92 HO.out (by omega) hsz
        have HA := Lib.hid hr
        have HO5 := Lib.hid ho5
        have HB5 := Lib.hid (HB.out.trans hb5)
        clear hr ho5 hb5
        go_wp2_with (at_builtin; refine Lib.wpList_append_run _ rfl _ _ _ _ rfl _ _ rfl rfl _ _ HA.out ?_)
        go_roundw
        case rel => exact ⟨4, by decide, rfl, by rw [HX.out]; exact HO5.out, HB5.out⟩
        case measure => simp [intOf]
      | false =>
        rw [hbit] at BT
        have HX : Hid (chN p f 4 = chN p f 3) := Lib.hid (by rw [chN]; exact if_neg (by rw [hbit]; decide))
        clear hbit
        go_wp2_with fail
        erw [hI3]
        go_wp2_with fail
        refine (BT.out _).mono ?_
        rintro e w4 ⟨rfl, rfl⟩
        go_wp2
        go_roundw
        case rel => exact ⟨4, by decide, rfl, by rw [HX.out]; exact HO.out, HB.out⟩
        case measure => simp [intOf]
    | 4, _ =>
      have BT := Lib.hid (bit_4 p hp)
      have hlen := chN_len p f 4
      cases hbit : p.testBit 4 with
      | true =>
        rw [hbit] at BT
        have HX : Hid (chN p f 5 = chN p f 4 ++ [f.seq]) := Lib.hid (by rw [chN]; exact if_pos hbit)
        clear hbit
        go_wp2_with fail
        erw [hI4]
        go_wp2_with fail
        refine (BT.out _).mono ?_
        rintro e w4 ⟨rfl, rfl⟩
        obtain ⟨v', w5, hr, ho5, hb5⟩ := push_W _ w.heap.size _ (chN p f 4) f.seq 92 HO.out (by omega) hsz
        have HA := Lib.hid hr
        have HO5 := Lib.hid ho5
        have HB5 := Lib.hid (HB.out.trans hb5)
        clear hr ho5 hb5
        go_wp2_with (at_builtin; refine Lib.wpList_append_run _ rfl _ _ _ _ rfl _ _ rfl rfl _ _ HA.out ?_)
        go_roundw
        case rel => exact ⟨5, by decide, rfl, by rw [HX.out]; exact HO5.out, HB5.out⟩
        case measure => simp [intOf]
      | false =>
        rw [hbit] at BT
        have HX : Hid (chN p f 5 = chN p f 4) := Lib.hid (by rw [chN]; exact if_neg (by rw [hbit]; decide))
        clear hbit
        go_wp2_with fail
        erw [hI4]
        go_wp2_with fail
        refine (BT.out _).mono ?_
        rintro e w4 ⟨rfl, rfl⟩
        go_wp2
        go_roundw
        case rel => exact ⟨5, by decide, rfl, by rw [HX.out]; exact HO.out, HB.out⟩
        case measure => simp [intOf]
    | 5, _ =>
      have BT := Lib.hid (bit_5 p hp)
      have hlen := chN_len p f 5
      cases hbit : p.testBit 5 with
      | true =>
        rw [hbit] at BT
        have HX : Hid (chN p f 6 = chN p f 5 ++ [f.prior]) := Lib.hid (by rw [chN]; exact if_pos hbit)
        clear hbit
        go_wp2_with fail
        erw [hI5]
        go_wp2_with fail
        refine (BT.out _).mono ?_
        rintro e w4 ⟨rfl, rfl⟩
        obtain ⟨v', w5, hr, ho5, hb5⟩ := push_W _ w.heap.size _ (chN p f 5) f.prior 92 HO.out (by omega) hsz
        have HA := Lib.hid hr
        have HO5 := Lib.hid ho5
        have HB5 := Lib.hid (HB.out.trans hb5)
        clear hr ho5 hb5
        go_wp2_with (at_builtin; refine Lib.wpList_append_run _ rfl _ _ _ _ rfl _ _ rfl rfl _ _ HA.out ?_)
        go_roundw
        case rel => exact ⟨6, by decide, rfl, by rw [HX.out]; exact HO5.out, HB5.out⟩
        case measure => simp [intOf]
      | false =>
        rw [hbit] at BT
        have HX : Hid (chN p f 6 = chN p f 5) := Lib.hid (by rw [chN]; exact if_neg (by rw [hbit]; decide))
        clear hbit
        go_wp2_with fail
        erw [hI5]
        go_wp2_with fail
        refine (BT.out _).mono ?_
        rintro e w4 ⟨rfl, rfl⟩
        go_wp2
        go_roundw
        case rel => exact ⟨6, by decide, rfl, by rw [HX.out]; exact HO.out, HB.out⟩
        case measure => simp [intOf]
    | 6, _ =>
      have BT := Lib.hid (bit_6 p hp)
      have hlen := chN_len p f 6
      cases hbit : p.testBit 6 with
      | true =>
        rw [hbit] at BT
        have HX : Hid (chN p f 7 = chN p f 6 ++ [f.delay]) := Lib.hid (by rw [chN]; exact if_pos hbit)
        clear hbit
        go_wp2_with fail
        erw [hI6]
        go_wp2_with fail
        refine (BT.out _).mono ?_
        rintro e w4 ⟨rfl, rfl⟩
        obtain ⟨v', w5, hr, ho5, hb5⟩ := push_W _ w.heap.size _ (chN p f 6) f.delay 92 HO.out (by omega) hsz
        have HA := Lib.hid hr
        have HO5 := Lib.hid ho5
        have HB5 := Lib.hid (HB.out.trans hb5)
        clear hr ho5 hb5
        go_wp2_with (at_builtin; refine Lib.wpList_append_run _ rfl _ _ _ _ rfl _ _ rfl rfl _ _ HA.out ?_)
        go_roundw
        case rel => exact ⟨7, by decide, rfl, by rw [HX.out]; exact HO5.out, HB5.out⟩
        case measure => simp [intOf]
      | false =>
        rw [hbit] at BT
        have HX : Hid (chN p f 7 = chN p f 6) := Lib.hid (by rw [chN]; exact if_neg (by rw [hbit]; decide))
        clear hbit
        go_wp2_with fail
        erw [hI6]
        go_wp2_with fail
        refine (BT.out _).mono ?_
        rintro e w4 ⟨rfl, rfl⟩
        go_wp2
        go_roundw
        case rel => exact ⟨7, by decide, rfl, by rw [HX.out]; exact HO.out, HB.out⟩
        case measure => simp [intOf]
    | 7, _ =>
      go_wp2
      go_ret
      exact ⟨_, rfl, HO.out, HB.out⟩

theorem numV_get (l : List Int) (i : Nat) (hi : i < l.length) : (numV l)[i]? = some (.int .u64 (l.getD i 0)) := by
  unfold numV
  rw [List.getElem?_map, List.getElem?_eq_getElem hi, List.getD, List.getElem?_eq_getElem hi]
  rfl
theorem OwnW.row {w : World} {B : Nat} {v : Value} {l : List Int} (h : OwnW w B v l) (h0 : ∀ z ∈ l, 0 ≤ z) : (l = [] ∧ ∃ a c, v = .slice a 0 c) ∨ ∃ g c, v = .slice (some ⟨g, 0, none⟩) l.length c ∧ NumRow w g 0 l := by
  rcases h.2 with ⟨hv, hn⟩ | ⟨g, cap, cur, hv, hb, hg, hc, hr⟩
  · exact .inl ⟨List.eq_nil_of_length_eq_zero hn, _, _, hv⟩
  · subst hv
    refine .inr ⟨g, cap, rfl, (World.ownsRow.lt h g rfl).2, fun i hi => ?_⟩
    have hz : 0 ≤ l.getD i 0 := by
      rw [List.getD, List.getElem?_eq_getElem hi]
      exact h0 _ (List.getElem_mem hi)
    refine ⟨?_, hz⟩
    rw [Nat.zero_add]
    exact (World.ownsRow.cellAt h i (by omega)).trans (numV_get l i hi)
theorem fit_all {l : List Int} (h0 : ∀ z ∈ l, 0 ≤ z ∧ z ≤ 4611686018427387903) : allFit l := by
  intro z hz
  obtain ⟨h1, h2⟩ := h0 z hz
  rcases pl_cases z.toNat with ⟨hp, h1⟩ | ⟨hp, h1, h2⟩ | ⟨hp, h1, h2⟩ | ⟨hp, h1, h2⟩ | ⟨hp, h1⟩ <;> omega
theorem puts_own (B : Nat) (v : Value) (l : List Int) (w : World) (ht : Tab w) (h : OwnW w B v l) (h0 : ∀ z ∈ l, 0 ≤ z ∧ z ≤ 4611686018427387903) (hl : l.length ≤ 1000) :
    Calls Tryz.prog 159 #[v] w fun e w' => e = .returned (.tuple #[.string ⟨(pcat l).toArray⟩, .int .i64 0]) ∧ Below w.heap.size w w' := by
  rcases h.row (fun z hz => (h0 z hz).1) with ⟨rfl, a, c, rfl⟩ | ⟨g, c, rfl, hr⟩
  · refine (vputs_nil a c w).mono ?_
    rintro e w' ⟨hb, ⟨_, rfl⟩ | ⟨hf, _⟩⟩
    · exact ⟨rfl, hb⟩
    · exact absurd (fit_all h0) hf
  · refine (vputs_row g 0 c l w ht hr hl).mono ?_
    rintro e w' ⟨hb, ⟨_, rfl⟩ | ⟨hf, _⟩⟩
    · exact ⟨rfl, hb⟩
    · exact absurd (fit_all h0) hf
end Go.Proofs.YtoblmhpjendbfaaGreatDoor.Fm
namespace Go.Proofs.YtoblmhpjendbfaaGreatDoor.Fw
set_option maxRecDepth 20000
open Go.RowKit
set_option linter.unusedVariables false

theorem sizeB : (Tryz.prog.info? 142).map (·.size) = some 2 := by kernel_rfl
theorem liesB : liesAt Tryz.prog Tryz.prog.depth 144 (2 / Tryz.prog.cellsOf 144) 0 142 1 = true := by kernel_rfl
/-- Blocks of other types than a row of bytes are kept. -/
def Kp (b : Nat) (w w' : World) : Prop := ∀ (K : Nat) (cs : Array Value) (T : TypeId) (fz : Nat × Nat), K ≠ b → T ≠ 5 → w.heap[K]? = some (.cells cs T fz) → w'.heap[K]? = some (.cells cs T fz)
theorem Kp.refl (b : Nat) (w : World) : Kp b w w := fun _ _ _ _ _ _ h => h
theorem Kp.trans {b : Nat} {w0 w1 w2 : World} (h : Kp b w0 w1) (k : Kp b w1 w2) : Kp b w0 w2 := fun K cs T fz h1 h2 h3 => k K cs T fz h1 h2 (h K cs T fz h1 h2 h3)
theorem Kp.below {b : Nat} {w w' : World} (h : Below w.heap.size w w') : Kp b w w' := fun K cs T fz _ _ hk => by
  rcases Nat.lt_or_ge K w.heap.size with h1 | h1
  · exact (h.block K h1).trans hk
  · rw [Array.getElem?_eq_none h1] at hk; cases hk
theorem Kp.setCell (b j : Nat) (v : Value) (w : World) : Kp b w (w.setCell ⟨b, j, none⟩ v) := fun K cs T fz h1 _ hk => by
  have ho := It.Only.setCell (O := fun k => k = b) (p := ⟨b, j, none⟩) rfl w v
  exact ho.heap hk h1
theorem infoB : (Tryz.prog.info? 5).map (fun i => (i.zero, i.size, i.bytes)) = some (some (.int .u8 0), 1, 1) := by kernel_rfl

set_option maxHeartbeats 1000000 in
set_option maxRecDepth 100000 in
theorem copyCheck_used (b : Nat) (w : World) (h0 : w.cell? ⟨b, 0, none⟩ = some (.pointer (some ⟨b, 0, none⟩))) :
    Calls Tryz.prog 161 #[.pointer (some ⟨b, 0, none⟩)] w fun e w' => e = .returned (.tuple #[]) ∧ w' = w := by
  obtain ⟨j, hj, _⟩ := Option.map_eq_some_iff.1 sizeB
  go_enter Tryz.func161, Tryz.ntmps161
  go_wp2
  rw [Lib.run_neq_ptr_same w _ Tryz.underlying139 hj]
  go_wp2
  go_end0
  exact ⟨rfl, rfl⟩

set_option maxHeartbeats 1000000 in
set_option maxRecDepth 100000 in
theorem copyCheck_fresh (b : Nat) (w : World) (h0 : w.cell? ⟨b, 0, none⟩ = some (.pointer none)) (hsh : w.shape? b = some (144, 2)) (hfz : w.frozen? ⟨b, 0, none⟩ = false) :
    Calls Tryz.prog 161 #[.pointer (some ⟨b, 0, none⟩)] w fun e w' => e = .returned (.tuple #[]) ∧ w' = w.setCell ⟨b, 0, none⟩ (.pointer (some ⟨b, 0, none⟩)) := by
  obtain ⟨j, hj, hjs⟩ := Option.map_eq_some_iff.1 sizeB
  go_enter Tryz.func161, Tryz.ntmps161
  go_wp2
  rw [Lib.run_to_unsafe w ⟨b, 0, none⟩ Tryz.underlying139 Tryz.underlying238 hj (by rw [hjs]; decide) hsh (Nat.zero_lt_succ 1)]
  simp only [Result.andThen]
  rw [Oper.upon_value]
  go_wp2
  rw [run_callFunc_extern Tryz.func181 (by kernel_rfl) (by kernel_rfl) (by kernel_rfl) (e := Extern.AbiNoEscape.same) (by kernel_rfl)]
  rw [Lib.run_noEscape]
  simp only [Result.andThen]
  rw [Oper.upon_value]
  go_wp2
  rw [Lib.run_from_unsafe w ⟨b, 0, none⟩ Tryz.underlying238 Tryz.underlying139 hj hsh liesB]
  simp only [Result.andThen]
  rw [Oper.upon_value]
  go_wp2
  go_end0
  exact ⟨rfl, rfl⟩

theorem copyCheck (B b : Nat) (bs : List Value) (w : World) (h : Lib.IsBuilder 144 5 B b bs w) :
    Calls Tryz.prog 161 #[.pointer (some ⟨b, 0, none⟩)] w fun e w' => e = .returned (.tuple #[]) ∧ (Lib.BuilderAt 144 5 B b (.pointer (some ⟨b, 0, none⟩)) bs w' ∧ Below B w w' ∧ Kp b w w') := by
  rcases h with h | h
  · refine (copyCheck_fresh b w h.cell0 h.shape h.frozen0).mono ?_
    rintro e w' ⟨rfl, rfl⟩
    exact ⟨rfl, h.used _, (Below.refl B w).setCell (p := ⟨b, 0, none⟩) h.1 _, Kp.setCell b 0 _ w⟩
  · refine (copyCheck_used b w h.cell0).mono ?_
    rintro e w' ⟨rfl, rfl⟩
    exact ⟨rfl, h, Below.refl B _, Kp.refl b _⟩

set_option maxHeartbeats 2000000 in
set_option maxRecDepth 100000 in
theorem writeString (B b : Nat) (bs : List Value) (s : ByteArray) (w : World) (h : Lib.IsBuilder 144 5 B b bs w) (hlen : bs.length + s.size ≤ 140737488355328) (hBw : B ≤ w.heap.size) :
    Calls Tryz.prog 132 #[.pointer (some ⟨b, 0, none⟩), .string s] w fun e w' => e = .returned (.tuple #[.int .i64 s.size, .nilIface]) ∧ (Lib.IsBuilder 144 5 B b (bs ++ Lib.strCells s) w' ∧ Below B w w' ∧ Kp b w w') := by
  obtain ⟨i0, hi, hz0, hz1, hz2⟩ := info_parts infoB
  have hi := Lib.hid hi; have hz0 := Lib.hid hz0; have hz1 := Lib.hid hz1; have hz2 := Lib.hid hz2
  go_enter Tryz.func132, Tryz.ntmps132
  go_wp2_with (go_at_call 161; refine (copyCheck B b bs _ h).mono ?_)
  rintro e w1 ⟨rfl, h1, hb1, hk1⟩
  obtain ⟨hB, v, hbk, hown, hne⟩ := h1
  have c0 : w1.cell? ⟨b, 0, none⟩ = some (.pointer (some ⟨b, 0, none⟩)) := by rw [Lib.cell_of_heap hbk]; rfl
  have c1 : w1.cell? ⟨b, 1, none⟩ = some v := by rw [Lib.cell_of_heap hbk]; rfl
  go_wp2_with (at_builtin; refine Lib.wpList_append_own_string _ rfl _ _ 140 9 rfl B 5 i0 Tryz.underlying140 Tryz.underlying9 hi.out hz0.out hz1.out hz2.out _ _ _ rfl hown s rfl ?c3 ?c4 ?c5 ?_)
  case c3 => unfold maxLen; omega
  case c4 => omega
  case c5 => have := hb1.size; omega
  intro v' w2 hown' hgrow _
  have hlt : b < w1.heap.size := by
    rcases Nat.lt_or_ge b w1.heap.size with h' | h'
    · exact h'
    · simp [Array.getElem?_eq_none h'] at hbk
  have hb2 : w2.heap[b]? = some (.cells #[.pointer (some ⟨b, 0, none⟩), v] 144 (0, 0)) := by
    rw [hgrow.block b hlt (fun e => hne e.symm)]
    exact hbk
  have d0 : w2.cell? ⟨b, 0, none⟩ = some (.pointer (some ⟨b, 0, none⟩)) := by rw [Lib.cell_of_heap hb2]; rfl
  have d1 : w2.cell? ⟨b, 1, none⟩ = some v := by rw [Lib.cell_of_heap hb2]; rfl
  have f1 : w2.frozen? ⟨b, 1, none⟩ = false := Lib.frozen_of_heap hb2 1
  obtain ⟨ao, n', cap, rfl⟩ : ∃ ao n' cap, v' = .slice ao n' cap := by
    rcases hown'.2 with ⟨hv, _⟩ | ⟨g, cap, cur, hv, _⟩
    · exact ⟨_, _, _, hv⟩
    · exact ⟨_, _, _, hv⟩
  have HKg : Hid (Kp b w1 w2) := Lib.hid (fun K cs T fz h1 h2 h3 => by
    have hKlt : K < w1.heap.size := (Array.getElem?_eq_some_iff.1 h3).1
    refine (hgrow.block K hKlt (fun he => ?_)).trans h3
    rcases hown.2 with ⟨hv, _⟩ | ⟨g, cap, cur, hv, _, hg, _⟩
    · rw [hv] at he; cases he
    · rw [hv] at he
      have e1 : g = K := by have he2 : K = g := (by simpa [Value.ownBlock] using he); exact he2.symm
      rw [e1, h3] at hg
      simp only [Option.some.injEq, Obj.cells.injEq] at hg
      exact h2 hg.2.1)
  have HK1 := Lib.hid hk1
  go_wp2
  go_ret2
  refine ⟨rfl, .inr ?_, ?_, (HK1.out.trans HKg.out).trans (Kp.setCell b 1 _ _)⟩
  · exact Lib.BuilderAt.put (T := 144) (e := 5) hB hb2 (bs' := bs ++ Lib.strCells s) (by simpa [Lib.strCells_length] using hown') (by decide)
  · exact (hb1.grown hgrow (by have := hb1.size; omega) (fun k hk => (hown.lt k hk).1)).setCell (p := ⟨b, 1, none⟩) hB _

set_option maxHeartbeats 2000000 in
set_option maxRecDepth 100000 in
theorem writeByte (B b : Nat) (bs : List Value) (c : Int) (w : World) (h : Lib.IsBuilder 144 5 B b bs w) (hlen : bs.length + 1 ≤ 140737488355328) (hBw : B ≤ w.heap.size) :
    Calls Tryz.prog 131 #[.pointer (some ⟨b, 0, none⟩), .int .u8 c] w fun e w' => e = .returned .nilIface ∧ (Lib.IsBuilder 144 5 B b (bs ++ [.int .u8 c]) w' ∧ Below B w w' ∧ Kp b w w') := by
  obtain ⟨i0, hi, hz0, hz1, hz2⟩ := info_parts infoB
  have hi := Lib.hid hi; have hz0 := Lib.hid hz0; have hz1 := Lib.hid hz1; have hz2 := Lib.hid hz2
  go_enter Tryz.func131, Tryz.ntmps131
  go_wp2_with (go_at_call 161; refine (copyCheck B b bs _ h).mono ?_)
  rintro e w1 ⟨rfl, h1, hb1, hk1⟩
  have hsz := hb1.size
  obtain ⟨hB, v, hbk, hown, hne⟩ := h1
  have c0 : w1.cell? ⟨b, 0, none⟩ = some (.pointer (some ⟨b, 0, none⟩)) := by rw [Lib.cell_of_heap hbk]; rfl
  have c1 : w1.cell? ⟨b, 1, none⟩ = some v := by rw [Lib.cell_of_heap hbk]; rfl
  have hlt : b < w1.heap.size := by
    rcases Nat.lt_or_ge b w1.heap.size with h' | h'
    · exact h'
    · rw [Array.getElem?_eq_none h'] at hbk; cases hbk
  have HN : Hid (∀ (j : Nat) (u : Value), ([.int .u8 c] : List Value)[j]? = some u → (w1.alloc (.cells #[.int .u8 c] 5)).cell? ((⟨w1.heap.size, 0, none⟩ : Addr).add j) = some u) := Lib.hid (by
    intro j u hj
    cases j with
    | zero =>
      simp only [List.getElem?_cons_zero, Option.some.injEq] at hj
      subst hj
      simp [Addr.add, go_sem]
    | succ j => simp at hj)
  go_wp2_with (at_builtin; refine wpList_append_own _ rfl _ _ 140 rfl B 5 i0 (.int .u8 0) 1 1 Tryz.underlying140 hi.out hz0.out hz1.out hz2.out rfl (by decide) _ _ _ rfl (hown.alloc _) ⟨w1.heap.size, 0, none⟩ 1 1 [.int .u8 c] rfl rfl HN.out ?c2 ?c3 ?c4 ?c5 ?_)
  case c2 => intro u hu; rw [List.mem_singleton.1 hu]; rfl
  case c3 => unfold maxLen; omega
  case c4 => omega
  case c5 => simp; omega
  intro v' w2 hown' hgrow _
  have hb2 : w2.heap[b]? = some (.cells #[.pointer (some ⟨b, 0, none⟩), v] 144 (0, 0)) := by
    rw [hgrow.block b (by simp; omega) (fun e => hne e.symm), Lib.alloc_old w1 _ b hlt]
    exact hbk
  have d0 : w2.cell? ⟨b, 0, none⟩ = some (.pointer (some ⟨b, 0, none⟩)) := by rw [Lib.cell_of_heap hb2]; rfl
  have d1 : w2.cell? ⟨b, 1, none⟩ = some v := by rw [Lib.cell_of_heap hb2]; rfl
  have f1 : w2.frozen? ⟨b, 1, none⟩ = false := Lib.frozen_of_heap hb2 1
  obtain ⟨ao, n', cap, rfl⟩ : ∃ ao n' cap, v' = .slice ao n' cap := by
    rcases hown'.2 with ⟨hv, _⟩ | ⟨g, cap, cur, hv, _⟩
    · exact ⟨_, _, _, hv⟩
    · exact ⟨_, _, _, hv⟩
  have HKg : Hid (Kp b w1 w2) := Lib.hid (fun K cs T fz h1 h2 h3 => by
    have hKlt : K < w1.heap.size := (Array.getElem?_eq_some_iff.1 h3).1
    have h4 : (w1.alloc (.cells #[.int .u8 c] 5)).heap[K]? = some (.cells cs T fz) := by rw [Lib.alloc_old w1 _ K hKlt]; exact h3
    refine (hgrow.block K (by simp; omega) (fun he => ?_)).trans h4
    rcases hown.2 with ⟨hv, _⟩ | ⟨g, cap, cur, hv, _, hg, _⟩
    · rw [hv] at he; cases he
    · rw [hv] at he
      have e1 : g = K := by have he2 : K = g := (by simpa [Value.ownBlock] using he); exact he2.symm
      rw [e1, h3] at hg
      simp only [Option.some.injEq, Obj.cells.injEq] at hg
      exact h2 hg.2.1)
  have HK1 := Lib.hid hk1
  go_wp2
  go_ret
  refine ⟨rfl, .inr ?_, ?_, (HK1.out.trans HKg.out).trans (Kp.setCell b 1 _ _)⟩
  · exact Lib.BuilderAt.put (T := 144) (e := 5) hB hb2 (bs' := bs ++ [.int .u8 c]) (by simpa using hown') (by decide)
  · exact ((hb1.alloc (by omega) _).grown hgrow (by simp; omega) (fun k hk => (hown.lt k hk).1)).setCell (p := ⟨b, 1, none⟩) hB _

set_option maxHeartbeats 4000000 in
set_option maxRecDepth 100000 in
theorem string_some (B b : Nat) (l : List UInt8) (w : World) (h : Lib.IsBuilder 144 5 B b (Lib.byteCells l) w) (h0 : l ≠ []) :
    Calls Tryz.prog 86 #[.pointer (some ⟨b, 0, none⟩)] w fun e w' => e = .returned (.string ⟨l.toArray⟩) ∧ Below B w w' := by
  obtain ⟨p, hAt⟩ : ∃ p, Lib.BuilderAt 144 5 B b p (Lib.byteCells l) w := by
    rcases h with h | h
    · exact ⟨_, h⟩
    · exact ⟨_, h⟩
  clear h
  obtain ⟨hB, v, hbk, hown, hne⟩ := hAt
  have hl0 : l.length ≠ 0 := by simpa using h0
  rw [Lib.byteCells_length] at hown
  have hO := hown
  rcases hown.2 with ⟨_, hz⟩ | ⟨g, cap, cur, rfl, hbg, hg, hcs, hnc, hr⟩
  · exact absurd hz hl0
  have HH := hr
  have c1 : w.drew.cell? ⟨b, 1, none⟩ = some (.slice (some ⟨g, 0, none⟩) l.length cap) := by
    have : w.drew.heap[b]? = some (.cells #[p, .slice (some ⟨g, 0, none⟩) l.length cap] 144 (0, 0)) := hbk
    rw [Lib.cell_of_heap this]; rfl
  have hcap : cap ≠ 0 := by omega
  have hSD := Lib.run_unsafeSliceData_row (P := Tryz.prog) w.drew #[140] 197 ⟨g, 0, none⟩ l.length cap hcap
  have hUS : (Builtin.unsafeString_ #[197, 3] 9 #[.pointer (some ⟨g, 0, none⟩), .int .i64 l.length]).run Tryz.prog w.drew = .ok (.string ⟨l.toArray⟩) (w.drew.freeze ⟨g, 0, none⟩ l.length) := by
    refine Lib.run_unsafeString_row w.drew _ _ _ 5 Tryz.underlying197 (by kernel_rfl) g cur.size (by have hg' : w.drew.heap[g]? = some (.cells cur 5 (0, 0)) := hg; simp [World.shape?, hg']) l h0 (by omega) (by unfold maxLen at hnc; omega) ?_
    intro j x hx
    have hc : w.cell? ⟨g, j, none⟩ = (Lib.byteCells l)[j]? := World.ownsRow.cellAt hO j (by have := (List.getElem?_eq_some_iff.1 hx).1; omega)
    have he : (Lib.byteCells l)[j]? = some (.int .u8 x.toNat) := by simp [Lib.byteCells, hx]
    have e : (⟨g, 0, none⟩ : Addr).add j = ⟨g, j, none⟩ := by unfold Addr.add; split <;> simp_all
    rw [e]
    exact hc.trans he
  clear hbk hown hne hO hr HH hg
  go_enter Tryz.func86, Tryz.ntmps86
  go_wp2
  go_region
  all_goals
    go_wp2
    go_ret
    exact ⟨rfl, Lib.below_freeze (Below.drew (Below.refl B w)) (p := ⟨g, 0, none⟩) hbg _⟩
end Go.Proofs.YtoblmhpjendbfaaGreatDoor.Fw
namespace Go.Proofs.YtoblmhpjendbfaaGreatDoor.Fm
set_option maxRecDepth 20000
open Go.RowKit Vm
set_option linter.unusedVariables false
set_option linter.unusedSimpArgs false

/-- A set's ranges, as the program's numbers. -/
def ints (rs : List (Nat × Nat)) : List Ran := rs.map fun p => ((p.1 : Int), (p.2 : Int))
theorem ints_len (rs : List (Nat × Nat)) : (ints rs).length = rs.length := by simp [ints]
theorem ints_get (rs : List (Nat × Nat)) (i : Nat) : (ints rs).getD i (0, 0) = (((rs.getD i (0, 0)).1 : Int), ((rs.getD i (0, 0)).2 : Int)) := by
  simp only [ints, List.getD_eq_getElem?_getD, List.getElem?_map]
  cases rs[i]? <;> rfl
/-- The parts of an Ack behind its first range: each below the one ahead, from the greatest to the least. -/
def ackQ : Nat → List (Nat × Nat) → List UInt8
  | _, [] => []
  | lo, p :: t => pt (lo - p.2 - 2) ++ (pt (p.2 - p.1) ++ ackQ p.1 t)
/-- The parts of an Ack; d: its ranges from the greatest to the least. -/
def ackP (delay : Nat) : List (Nat × Nat) → List UInt8
  | [] => []
  | p :: t => pt p.2 ++ (pt delay ++ (pt t.length ++ (pt (p.2 - p.1) ++ ackQ p.1 t)))
/-- A bit added to a number that is less. -/
theorem bit_add (P i j : Nat) (hP : P < 2 ^ i) : (P + 2 ^ i).testBit j = (P.testBit j || decide (j = i)) := by
  rw [Nat.add_comm]
  rcases Nat.lt_trichotomy j i with h | h | h
  · rw [Nat.testBit_two_pow_add_gt h, decide_eq_false (by omega), Bool.or_false]
  · subst h
    rw [Nat.testBit_two_pow_add_eq, Nat.testBit_lt_two_pow hP]
    simp
  · have h1 : 2 ^ (i + 1) ≤ 2 ^ j := Nat.pow_le_pow_right (by decide) h
    rw [Nat.pow_succ] at h1
    rw [Nat.testBit_lt_two_pow (by omega), Nat.testBit_lt_two_pow (by omega), decide_eq_false (by omega)]
    rfl
theorem fN_bit (f : Frm) (j : Nat) : ∀ i, (fN f i).testBit j = (decide (j < i) && decide (nm f j ≠ 0))
  | 0 => by simp [fN]
  | i + 1 => by
    have ih := fN_bit f j i
    have hlt := fN_lt f i
    rw [fN]
    by_cases h : nm f i = 0
    · rw [if_pos h, ih]
      by_cases hj : j = i
      · subst hj; simp [h]
      · have : decide (j < i + 1) = decide (j < i) := by simp; omega
        rw [this]
    · rw [if_neg h, bit_add _ _ _ hlt, ih]
      by_cases hj : j = i
      · subst hj; simp [h]
      · have : decide (j < i + 1) = decide (j < i) := by simp; omega
        rw [this, decide_eq_false hj, Bool.or_false]
theorem fT_num (f : Frm) (j : Nat) (hj : j < 7) : ∀ i, (fT f i).testBit j = decide (nm f j ≠ 0)
  | 0 => by rw [fT, fN_bit, decide_eq_true hj, Bool.true_and]
  | i + 1 => by
    rw [fT]
    split
    · exact fT_num f j hj i
    · rw [bit_add _ _ _ (fT_lt f i), fT_num f j hj i, decide_eq_false (show ¬ j = 7 + i by omega), Bool.or_false]
theorem fT_txt (f : Frm) (j : Nat) : ∀ i, i ≤ 3 → (fT f i).testBit (7 + j) = (decide (j < i) && decide (txF f j ≠ []))
  | 0, _ => by rw [fT, fN_bit, decide_eq_false (show ¬ 7 + j < 7 by omega), decide_eq_false (show ¬ j < 0 by omega)]; rfl
  | i + 1, hi => by
    have ih := fT_txt f j i (by omega)
    rw [fT]
    by_cases h : txF f i = []
    · rw [if_pos h, ih]
      by_cases hj : j = i
      · subst hj; simp [h]
      · have : decide (j < i + 1) = decide (j < i) := by simp; omega
        rw [this]
    · rw [if_neg h, bit_add _ _ _ (fT_lt f i), ih]
      by_cases hj : j = i
      · subst hj; simp [h]
      · have e : decide (j < i + 1) = decide (j < i) := by simp; omega
        have e2 : decide (7 + j = 7 + i) = false := decide_eq_false (by omega)
        rw [e, e2, Bool.or_false]
theorem fil_bit (f : Frm) (j : Nat) : (filN f).testBit j = ((fT f 3).testBit j || (decide (j = 10) && f.fin) || (decide (j = 11) && decide (0 < f.set.n))) := by
  have h3 : fT f 3 < 2 ^ 10 := fT_lt f 3
  have e1 : (fT f 3 + (if f.fin = true then 1024 else 0)).testBit j = ((fT f 3).testBit j || (decide (j = 10) && f.fin)) := by
    cases f.fin with
    | true => rw [if_pos rfl, show (1024 : Nat) = 2 ^ 10 from rfl, bit_add _ _ _ h3, Bool.and_true]
    | false => rw [if_neg (by decide), Nat.add_zero, Bool.and_false, Bool.or_false]
  unfold filN
  by_cases h : 0 < f.set.n
  · rw [if_pos h, show (2048 : Nat) = 2 ^ 11 from rfl, bit_add _ _ _ (by split <;> omega), e1, decide_eq_true h, Bool.and_true]
  · rw [if_neg h, Nat.add_zero, e1, decide_eq_false h, Bool.and_false, Bool.or_false]
/-- What a frame has, its kind has. -/
structure Has (p : Nat) (f : Frm) : Prop where
  num : ∀ j, j < 7 → p.testBit j = false → nm f j = 0
  data : p.testBit 7 = false → f.data = []
  cid : p.testBit 8 = false → f.cid = []
  token : p.testBit 9 = false → f.token = []
  fin : p.testBit 10 = false → f.fin = false
  set : p.testBit 11 = false → f.set.n = 0
theorem has_sub {p : Nat} {f : Frm} (h : filN f &&& p = filN f) : Has p f := by
  have hb : ∀ j, p.testBit j = false → (filN f).testBit j = false := fun j hp => by rw [← h, Nat.testBit_and, hp, Bool.and_false]
  refine ⟨fun j hj hp => ?_, fun hp => ?_, fun hp => ?_, fun hp => ?_, fun hp => ?_, fun hp => ?_⟩
  · have := hb j hp
    rw [fil_bit, fT_num f j hj] at this
    simp only [Bool.or_eq_false_iff] at this
    simpa using this.1.1
  · have := hb 7 hp
    rw [fil_bit, show (fT f 3).testBit 7 = _ from fT_txt f 0 3 (by decide)] at this
    simpa [txF] using this
  · have := hb 8 hp
    rw [fil_bit, show (fT f 3).testBit 8 = _ from fT_txt f 1 3 (by decide)] at this
    simpa [txF] using this
  · have := hb 9 hp
    rw [fil_bit, show (fT f 3).testBit 9 = _ from fT_txt f 2 3 (by decide)] at this
    simpa [txF] using this
  · have := hb 10 hp
    rw [fil_bit, show (fT f 3).testBit 10 = _ from fT_txt f 3 3 (by decide)] at this
    simpa using this
  · have := hb 11 hp
    rw [fil_bit, show (fT f 3).testBit 11 = _ from fT_txt f 4 3 (by decide)] at this
    simpa using this
/-- The texts of a frame that has these parts. -/
def txtL (p : Nat) (f : Frm) : List UInt8 := (if p.testBit 7 = true then pt f.data.length else []) ++ ((if p.testBit 8 = true then [UInt8.ofNat f.cid.length] else []) ++ (f.data ++ (f.cid ++ f.token)))
/-- The bytes of a frame that may be. -/
def putL (f : Frm) (rs : List (Nat × Nat)) : List UInt8 :=
  pt (fstN f).toNat ++ (if (toldP (fstN f).toNat).testBit 11 = true then ackP f.delay.toNat rs.reverse else pcat (chN (toldP (fstN f).toNat) f 7) ++ txtL (toldP (fstN f).toNat) f)
/-- A frame whose Set's place is left open. -/
def cn (f : Frm) (n : Nat) : Frm := { f with set := ⟨none, n, 0⟩ }
/-- A frame whose numbers are none below 0, whose texts are not told yet. -/
def Pos (f : Frm) : Prop := ∀ j, 0 ≤ nm f j
/-- What a frame that was read is like. -/
structure Read (l : List UInt8) (f : Frm) (rs : List (Nat × Nat)) (r : List UInt8) : Prop where
  suf : ∃ pre, l = pre ++ r ∧ pre ≠ []
  pos : Pos f
  data : f.data.length ≤ l.length
  set : f.set = ⟨none, rs.length, 0⟩
  len : rs.length ≤ 32
  kind : ∃ k : Nat, f.kind = (k : Nat)
/-- What a frame that may be is like; k: its kind. -/
structure MayK (k : Nat) (f : Frm) (l : List Ran) : Prop where
  some : (partsN k).isSome = true
  has : Has ((partsN k).getD 0) f
  num : ∀ j, j < 7 → nm f j ≤ 4611686018427387903
  knd : kndB f l = true
theorem mayF_k {k : Nat} {f : Frm} {l : List Ran} (h : mayF k f l = true) : MayK k f l := by
  unfold mayF at h
  rw [Bool.and_eq_true, Bool.and_eq_true, decide_eq_true_iff] at h
  obtain ⟨h1, h2, h3⟩ := h
  unfold bndB at h3
  rw [Bool.and_eq_true] at h3
  exact ⟨h1, has_sub h2, fun j hj => of_decide_eq_true (List.all_eq_true.1 h3.1 j (List.mem_range.2 hj)), h3.2⟩
theorem nm_all {f : Frm} (h : ∀ j, j < 7 → 0 ≤ nm f j ∧ nm f j ≤ 4611686018427387903) : (0 ≤ f.id ∧ f.id ≤ 4611686018427387903) ∧ (0 ≤ f.off ∧ f.off ≤ 4611686018427387903) ∧ (0 ≤ f.code ∧ f.code ≤ 4611686018427387903) ∧ (0 ≤ f.max ∧ f.max ≤ 4611686018427387903) ∧ (0 ≤ f.seq ∧ f.seq ≤ 4611686018427387903) ∧ (0 ≤ f.prior ∧ f.prior ≤ 4611686018427387903) ∧ (0 ≤ f.delay ∧ f.delay ≤ 4611686018427387903) :=
  ⟨h 0 (by decide), h 1 (by decide), h 2 (by decide), h 3 (by decide), h 4 (by decide), h 5 (by decide), h 6 (by decide)⟩
theorem kind_lt {k : Nat} (h : (partsN k).isSome = true) : k < 31 := by
  unfold partsN at h
  split at h
  all_goals first | omega | cases h
end Go.Proofs.YtoblmhpjendbfaaGreatDoor.Fm
