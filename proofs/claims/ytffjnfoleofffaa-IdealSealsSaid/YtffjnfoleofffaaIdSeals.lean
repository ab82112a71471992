/- The law IdealSeals, walked. By tools/gen-ideal-6.py. -/
import Derived.Test.YtffjnfoleofffaaIdOwn
namespace Go.Proofs.Ytffjnfoleofffaa.Id
open Go.RowKit Vm
set_option linter.unusedVariables false
set_option linter.unusedSimpArgs false

theorem opnV_form (o : Option Ent) : ∃ (N : Nat) (P : ByteArray) (B : Bool), opnV o = .tuple #[.int .u64 N, .string P, .bool B] := by
  cases o with
  | none => exact ⟨0, ⟨#[]⟩, false, rfl⟩
  | some e => exact ⟨e.num, e.plain, true, rfl⟩
/-- Between two rounds. -/
structure SealI (s : Nat) (L : List Ent) (w0 : World) (g h i : Nat) (ba ra : Option Addr) (bc rc : Nat) (W : World) : Prop where
  box : W.heap[g]? = some (.cells #[.int .u64 s, .int .u64 i, .slice ba i bc] 31 (0, 0))
  rbx : W.heap[h]? = some (.cells #[.int .u64 s, .int .u64 i, .slice ra i rc] 35 (0, 0))
  row : RowE W (.slice ba i bc) (sld s L i)
  rrow : RowE W (.slice ra i rc) (sld s L i)
  bel : Below w0.heap.size w0 W
  low : w0.heap.size ≤ g
  gh : g < h
  sz : h < W.heap.size
set_option maxRecDepth 100000 in
set_option maxHeartbeats 16000000 in
theorem seals_law (s : Nat) (a : Option Addr) (n cap : Nat) (L : List Ent) (z : Int) (other : ByteArray) (w0 : World) (hL : L.length = n) (hn : n ≤ maxLen) (hr : RowE w0 (.slice a n cap) L) :
    Calls Try.prog 4 #[.int .u64 s, .slice a n cap, .int .i64 z, .string other] w0 fun e w' => e = .returned (.bool true) ∧ Below w0.heap.size w0 w' := by
  have CB := Lib.hid (bounded_any (.slice a n cap) L w0 hr (by omega))
  obtain ⟨lo, hlo⟩ : ∃ k, other.size = k := ⟨_, rfl⟩
  obtain ⟨bd, hbd⟩ : ∃ b, bdL L = b := ⟨_, rfl⟩
  rw [hbd] at CB
  unfold maxLen at hn
  have hnI : (n : Int) ≤ 9223372036854775807 := by omega
  cases bd with
  | false =>
    clear hr hL hbd hn
    go_enter Try.func4, Try.ntmps4
    go_wp2_with fail
    with_reducible refine (CB.out).mono ?_
    rintro e w1 ⟨rfl, rfl⟩
    go_wp2_with fail
    with_reducible refine (shown_any _).mono ?_
    rintro e w1 ⟨rfl, hb⟩
    have HB1 := Lib.hid hb
    clear hb
    go_wp2_with fail
    go_ret
    exact ⟨rfl, HB1.out⟩
  | true =>
  by_cases hO : lo ≤ 300
  · have hOi : ¬ (300 : Int) < (lo : Int) := by omega
    obtain ⟨h20, hall⟩ := bdL_all hbd
    rw [hL] at h20 hall
    obtain ⟨-, hcap, hc⟩ := hr.cells
    have HC := Lib.hid hc
    have HALL := Lib.hid hall
    have hn20 : (n : Int) ≤ 20 := by omega
    have CN := Lib.hid (new_any s)
    have CNR := Lib.hid (rnew_any s)
    have CCO := Lib.hid (fun W => cid_any other W (by omega))
    have CDO := Lib.hid (fun W => rcid_any other W (by omega))
    clear hr hbd hall hc hn hnI hL hO
    go_enter Try.func4, Try.ntmps4
    go_wp2_with fail
    with_reducible refine (CB.out).mono ?_
    rintro e w1 ⟨rfl, rfl⟩
    go_wp2_with fail
    with_reducible refine (shown_any _).mono ?_
    rintro e w1 ⟨rfl, hb⟩
    have HB1 := Lib.hid hb
    clear hb
    go_wp2_with fail
    with_reducible refine (CN.out _).mono ?_
    rintro e w2 ⟨rfl, hb⟩
    have HB2 := Lib.hid (HB1.out.trans (hb.mono HB1.out.size))
    clear hb HB1
    go_wp2_with fail
    with_reducible refine (CNR.out _).mono ?_
    rintro e w3 ⟨rfl, hb⟩
    have hs23 : w2.heap.size < w3.heap.size := by have := hb.size; simp at this; omega
    have HI0 : Hid (SealI s L w0 w2.heap.size w3.heap.size 0 none none 0 0 (w3.alloc (.cells #[.int .u64 s, .int .u64 0, .slice none 0 0] 35))) := Lib.hid {
      box := (Below.heap_alloc _ _ _ hs23).trans ((hb.block w2.heap.size (by simp)).trans (heap_alloc_new w2 _))
      rbx := heap_alloc_new w3 _
      row := RowE.nil _
      rrow := RowE.nil _
      bel := ((HB2.out.alloc HB2.out.size _).trans (hb.mono (by have := HB2.out.size; simp; omega))).alloc (by have := HB2.out.size; omega) _
      low := HB2.out.size
      gh := hs23
      sz := by simp }
    clear HB2 hb
    go_wp2_with fail
    generalize w3.alloc (.cells #[.int .u64 s, .int .u64 0, .slice none 0 0] 35) = w4 at *
    generalize w3.heap.size = h at *
    generalize w2.heap.size = g at *
    go_loopw [11] (fun v11 wr => ∃ (i : Nat) (ba ra : Option Addr) (bc rc : Nat), i ≤ n ∧ v11 = .int .i64 (i : Nat) ∧ SealI s L w0 g h i ba ra bc rc wr) (fun v11 _ => n - (intOf v11).toNat)
    case atStart => exact ⟨0, none, none, 0, 0, Nat.zero_le _, rfl, HI0.out⟩
    case round =>
      clear HI0
      obtain ⟨i, ba, ra, bc, rc, hi, rfl, hI⟩ := hrel
      have HI := Lib.hid hI
      have hi0 : (0 : Int) ≤ (i : Int) := by omega
      by_cases hin : (i : Int) < (n : Int)
      · have hin2 : i < n := by omega
        obtain ⟨rb, off, rfl, hc⟩ := HC.out i hin2
        obtain ⟨hs1, hs2⟩ := HALL.out i hin2
        have HCR := Lib.hid (fun W (hW : Below wr.heap.size wr W) => hc W (hI.bel.trans (hW.mono hI.bel.size)))
        obtain ⟨x, hx⟩ : ∃ x, L.getD i eZ = x := ⟨_, rfl⟩
        rw [hx] at HCR hs1 hs2
        obtain ⟨SS, hSS⟩ : ∃ y, sealS s i x.bytes x.plain = y := ⟨_, rfl⟩
        have HSZ : Hid (SS.size ≤ 100000) := Lib.hid (by rw [← hSS, sealS_size]; omega)
        have hgw : g < wr.heap.size := Nat.lt_trans hI.gh hI.sz
        have hhw : h < wr.heap.size := hI.sz
        have HL : Hid (∀ W, Below wr.heap.size wr W → W.cell? ⟨g, 0, none⟩ = some (.int .u64 s) ∧ W.cell? ⟨g, 1, none⟩ = some (.int .u64 i) ∧ W.cell? ⟨g, 2, none⟩ = some (.slice ba i bc) ∧ W.cell? ⟨rb, off + i * 4, none⟩ = some (.int .i64 x.fr) ∧ W.cell? ⟨rb, off + i * 4 + 1, none⟩ = some (.int .u64 x.num) ∧ W.cell? ⟨rb, off + i * 4 + 2, none⟩ = some (.string x.bytes) ∧ W.cell? ⟨rb, off + i * 4 + 3, none⟩ = some (.string x.plain)) := Lib.hid (fun W hW => by
          have hh := (hW.block g hgw).trans hI.box
          exact ⟨Lib.cell_of_heap hh 0, Lib.cell_of_heap hh 1, Lib.cell_of_heap hh 2, HCR.out W hW⟩)
        have HLH : Hid (∀ W, Below wr.heap.size wr W → W.cell? ⟨h, 0, none⟩ = some (.int .u64 s) ∧ W.cell? ⟨h, 1, none⟩ = some (.int .u64 i) ∧ W.cell? ⟨h, 2, none⟩ = some (.slice ra i rc) ∧ W.cell? ⟨rb, off + i * 4, none⟩ = some (.int .i64 x.fr) ∧ W.cell? ⟨rb, off + i * 4 + 1, none⟩ = some (.int .u64 x.num) ∧ W.cell? ⟨rb, off + i * 4 + 2, none⟩ = some (.string x.bytes) ∧ W.cell? ⟨rb, off + i * 4 + 3, none⟩ = some (.string x.plain)) := Lib.hid (fun W hW => by
          have hh := (hW.block h hhw).trans hI.rbx
          exact ⟨Lib.cell_of_heap hh 0, Lib.cell_of_heap hh 1, Lib.cell_of_heap hh 2, HCR.out W hW⟩)
        have CS : Hid (∀ W, Below wr.heap.size wr W → Calls Try.prog 17 #[.agg #[.int .u64 s, .int .u64 i, .slice ba i bc], .int .i64 x.fr, .int .u64 x.num, .string x.bytes, .string x.plain] W fun e w' => ∃ a c, e = .returned (.tuple #[.agg #[.int .u64 s, .int .u64 (i + 1 : Nat), .slice a (i + 1) c], .string SS]) ∧ OwnE 64 w' W.heap.size (.slice a (i + 1) c) (sld s L (i + 1)) ∧ Below W.heap.size W w') := Lib.hid (fun W hW => seal_round s i L _ x SS W hx hSS (by omega) (hI.row.go hW) hs1 hs2)
        have CR0 : Hid (∀ W, Below wr.heap.size wr W → Calls Try.prog 18 #[.agg #[.int .u64 s, .int .u64 i, .slice ra i rc], .int .i64 x.fr, .int .u64 x.num, .string x.bytes, .string x.plain] W fun e w' => ∃ a c, e = .returned (.tuple #[.agg #[.int .u64 s, .int .u64 (i + 1 : Nat), .slice a (i + 1) c], .string SS]) ∧ OwnE 66 w' W.heap.size (.slice a (i + 1) c) (sld s L (i + 1)) ∧ Below W.heap.size W w') := Lib.hid (fun W hW => rseal_round s i L _ x SS W hx hSS (by omega) (hI.rrow.go hW) hs1 hs2)
        have HWD : Hid (Below wr.heap.size wr wr.drew) := Lib.hid (Below.refl wr.heap.size wr).drew
        have HWA : Hid (Below wr.heap.size wr (wr.alloc (.cells #[.int .u64 0, .int .u64 0, .slice none 0 0] 31)).drew) := Lib.hid (((Below.refl wr.heap.size wr).alloc (Nat.le_refl _) _).drew)
        clear hI hc hs1 hs2 hx hSS HCR
        go_wp2_with fail
        go_upto_region 8 with (fail)
        go_cut [12, 13] from 51 to 75 (fun v12 v13 W => CutS 31 64 s i L SS wr v12 v13 W)
        case first =>
          refine wp_region_noPanic ?_
          refine wp_region_held_drew (S := fun W : World => Below wr.heap.size wr W) (by kernel_rfl) ?_ (fun hHeld => ?_)
          · exact HWD.out
          refine wpAnyH_take (i := 0) (v := ?_) rfl (by kernel_rfl) (by kernel_rfl) (by kernel_rfl) (fun _ _ _ h => h) (Or.inl ⟨by rfl, ?_⟩) (by assumption) ?_
          rotate_left
          · (intro w hSw; (obtain ⟨c0, c1, c2, e0, e1, e2, e3⟩ := HL.out w hSw; clear hSw); go_simp; (try with_reducible rfl))
          try simp only [Act.put, List.getElem_toArray, List.getElem_cons_zero, List.getElem_cons_succ, List.setIfInBounds_toArray, List.set_cons_zero, List.set_cons_succ]
          refine wpAnyH_take (i := 1) (v := ?_) rfl (by kernel_rfl) (by kernel_rfl) (by kernel_rfl) (fun _ _ _ h => h) (Or.inl ⟨by rfl, ?_⟩) (by assumption) ?_
          rotate_left
          · (intro w hSw; (obtain ⟨c0, c1, c2, e0, e1, e2, e3⟩ := HL.out w hSw; clear hSw); go_simp; (try with_reducible rfl))
          try simp only [Act.put, List.getElem_toArray, List.getElem_cons_zero, List.getElem_cons_succ, List.setIfInBounds_toArray, List.set_cons_zero, List.set_cons_succ]
          refine wpAnyH_take (i := 2) (v := ?_) rfl (by kernel_rfl) (by kernel_rfl) (by kernel_rfl) (fun _ _ _ h => h) (Or.inl ⟨by rfl, ?_⟩) (by assumption) ?_
          rotate_left
          · (intro w hSw; (obtain ⟨c0, c1, c2, e0, e1, e2, e3⟩ := HL.out w hSw; clear hSw); go_simp; (try with_reducible rfl))
          try simp only [Act.put, List.getElem_toArray, List.getElem_cons_zero, List.getElem_cons_succ, List.setIfInBounds_toArray, List.set_cons_zero, List.set_cons_succ]
          refine wpAnyH_take (i := 3) (v := ?_) rfl (by kernel_rfl) (by kernel_rfl) (by kernel_rfl) (fun _ _ _ h => h) (Or.inl ⟨by rfl, ?_⟩) (by assumption) ?_
          rotate_left
          · (intro w hSw; (obtain ⟨c0, c1, c2, e0, e1, e2, e3⟩ := HL.out w hSw; clear hSw); go_simp; (try with_reducible rfl))
          try simp only [Act.put, List.getElem_toArray, List.getElem_cons_zero, List.getElem_cons_succ, List.setIfInBounds_toArray, List.set_cons_zero, List.set_cons_succ]
          refine wpAnyH_take (i := 4) (v := ?_) rfl (by kernel_rfl) (by kernel_rfl) (by kernel_rfl) (fun _ _ _ h => h) (Or.inl ⟨by rfl, ?_⟩) (by assumption) ?_
          rotate_left
          · (intro w hSw; (obtain ⟨c0, c1, c2, e0, e1, e2, e3⟩ := HL.out w hSw; clear hSw); go_simp; (try with_reducible rfl))
          try simp only [Act.put, List.getElem_toArray, List.getElem_cons_zero, List.getElem_cons_succ, List.setIfInBounds_toArray, List.set_cons_zero, List.set_cons_succ]
          refine wpAnyH_take (i := 5) (v := ?_) rfl (by kernel_rfl) (by kernel_rfl) (by kernel_rfl) (fun _ _ _ h => h) (Or.inl ⟨by rfl, ?_⟩) (by assumption) ?_
          rotate_left
          · (intro w hSw; (obtain ⟨c0, c1, c2, e0, e1, e2, e3⟩ := HL.out w hSw; clear hSw); go_simp; (try with_reducible rfl))
          try simp only [Act.put, List.getElem_toArray, List.getElem_cons_zero, List.getElem_cons_succ, List.setIfInBounds_toArray, List.set_cons_zero, List.set_cons_succ]
          refine wpAnyH_take (i := 6) (v := ?_) rfl (by kernel_rfl) (by kernel_rfl) (by kernel_rfl) (fun _ _ _ h => h) (Or.inl ⟨by rfl, ?_⟩) (by assumption) ?_
          rotate_left
          · (intro w hSw; (obtain ⟨c0, c1, c2, e0, e1, e2, e3⟩ := HL.out w hSw; clear hSw); go_simp; (try with_reducible rfl))
          try simp only [Act.put, List.getElem_toArray, List.getElem_cons_zero, List.getElem_cons_succ, List.setIfInBounds_toArray, List.set_cons_zero, List.set_cons_succ]
          refine wpAnyH_take (i := 7) (v := ?_) rfl (by kernel_rfl) (by kernel_rfl) (by kernel_rfl) (fun _ _ _ h => h) (Or.inl ⟨by rfl, ?_⟩) (by assumption) ?_
          rotate_left
          · (intro w hSw; (obtain ⟨c0, c1, c2, e0, e1, e2, e3⟩ := HL.out w hSw; clear hSw); go_simp; (try with_reducible rfl))
          try simp only [Act.put, List.getElem_toArray, List.getElem_cons_zero, List.getElem_cons_succ, List.setIfInBounds_toArray, List.set_cons_zero, List.set_cons_succ]
          refine wpAnyH_take (i := 8) (v := ?_) rfl (by kernel_rfl) (by kernel_rfl) (by kernel_rfl) (fun _ _ _ h => h) (Or.inl ⟨by rfl, ?_⟩) (by assumption) ?_
          rotate_left
          · (intro w hSw; (obtain ⟨c0, c1, c2, e0, e1, e2, e3⟩ := HL.out w hSw; clear hSw); go_simp; (try with_reducible rfl))
          try simp only [Act.put, List.getElem_toArray, List.getElem_cons_zero, List.getElem_cons_succ, List.setIfInBounds_toArray, List.set_cons_zero, List.set_cons_succ]
          refine wpAnyH_take (i := 9) (v := ?_) rfl (by kernel_rfl) (by kernel_rfl) (by kernel_rfl) (fun _ _ _ h => h) (Or.inl ⟨by rfl, ?_⟩) (by assumption) ?_
          rotate_left
          · (intro w hSw; (obtain ⟨c0, c1, c2, e0, e1, e2, e3⟩ := HL.out w hSw; clear hSw); go_simp; (try with_reducible rfl))
          try simp only [Act.put, List.getElem_toArray, List.getElem_cons_zero, List.getElem_cons_succ, List.setIfInBounds_toArray, List.set_cons_zero, List.set_cons_succ]
          refine wpAnyH_take (i := 10) (v := ?_) rfl (by kernel_rfl) (by kernel_rfl) (by kernel_rfl) (fun _ _ _ h => h) (Or.inl ⟨by rfl, ?_⟩) (by assumption) ?_
          rotate_left
          · (intro w hSw; (obtain ⟨c0, c1, c2, e0, e1, e2, e3⟩ := HL.out w hSw; clear hSw); go_simp; (try with_reducible rfl))
          try simp only [Act.put, List.getElem_toArray, List.getElem_cons_zero, List.getElem_cons_succ, List.setIfInBounds_toArray, List.set_cons_zero, List.set_cons_succ]
          refine wpAnyH_take (i := 11) (v := ?_) rfl (by kernel_rfl) (by kernel_rfl) (by kernel_rfl) (fun _ _ _ h => h) (Or.inl ⟨by rfl, ?_⟩) (by assumption) ?_
          rotate_left
          · (intro w hSw; (obtain ⟨c0, c1, c2, e0, e1, e2, e3⟩ := HL.out w hSw; clear hSw); go_simp; (try with_reducible rfl))
          try simp only [Act.put, List.getElem_toArray, List.getElem_cons_zero, List.getElem_cons_succ, List.setIfInBounds_toArray, List.set_cons_zero, List.set_cons_succ]
          refine wpAnyH_take (i := 12) (v := ?_) rfl (by kernel_rfl) (by kernel_rfl) (by kernel_rfl) (fun _ _ _ h => h) (Or.inl ⟨by rfl, ?_⟩) (by assumption) ?_
          rotate_left
          · (intro w hSw; (obtain ⟨c0, c1, c2, e0, e1, e2, e3⟩ := HL.out w hSw; clear hSw); go_simp; (try with_reducible rfl))
          try simp only [Act.put, List.getElem_toArray, List.getElem_cons_zero, List.getElem_cons_succ, List.setIfInBounds_toArray, List.set_cons_zero, List.set_cons_succ]
          refine wpAnyH_take (i := 13) (v := ?_) rfl (by kernel_rfl) (by kernel_rfl) (by kernel_rfl) (fun _ _ _ h => h) (Or.inl ⟨by rfl, ?_⟩) (by assumption) ?_
          rotate_left
          · (intro w hSw; (obtain ⟨c0, c1, c2, e0, e1, e2, e3⟩ := HL.out w hSw; clear hSw); go_simp; (try with_reducible rfl))
          try simp only [Act.put, List.getElem_toArray, List.getElem_cons_zero, List.getElem_cons_succ, List.setIfInBounds_toArray, List.set_cons_zero, List.set_cons_succ]
          refine wpAnyH_take (i := 14) (v := ?_) rfl (by kernel_rfl) (by kernel_rfl) (by kernel_rfl) (fun _ _ _ h => h) (Or.inl ⟨by rfl, ?_⟩) (by assumption) ?_
          rotate_left
          · (intro w hSw; (obtain ⟨c0, c1, c2, e0, e1, e2, e3⟩ := HL.out w hSw; clear hSw); go_simp; (try with_reducible rfl))
          try simp only [Act.put, List.getElem_toArray, List.getElem_cons_zero, List.getElem_cons_succ, List.setIfInBounds_toArray, List.set_cons_zero, List.set_cons_succ]
          refine wpAnyH_take (i := 15) (v := ?_) rfl (by kernel_rfl) (by kernel_rfl) (by kernel_rfl) (fun _ _ _ h => h) (Or.inl ⟨by rfl, ?_⟩) (by assumption) ?_
          rotate_left
          · (intro w hSw; (obtain ⟨c0, c1, c2, e0, e1, e2, e3⟩ := HL.out w hSw; clear hSw); go_simp; (try with_reducible rfl))
          try simp only [Act.put, List.getElem_toArray, List.getElem_cons_zero, List.getElem_cons_succ, List.setIfInBounds_toArray, List.set_cons_zero, List.set_cons_succ]
          refine wpAnyH_take (i := 16) (v := ?_) rfl (by kernel_rfl) (by kernel_rfl) (by kernel_rfl) (fun _ _ _ h => h) (Or.inl ⟨by rfl, ?_⟩) (by assumption) ?_
          rotate_left
          · (intro w hSw; (obtain ⟨c0, c1, c2, e0, e1, e2, e3⟩ := HL.out w hSw; clear hSw); go_simp; (try with_reducible rfl))
          try simp only [Act.put, List.getElem_toArray, List.getElem_cons_zero, List.getElem_cons_succ, List.setIfInBounds_toArray, List.set_cons_zero, List.set_cons_succ]
          refine wpAnyH_take (i := 17) (v := ?_) rfl (by kernel_rfl) (by kernel_rfl) (by kernel_rfl) (fun _ _ _ h => h) (Or.inl ⟨by rfl, ?_⟩) (by assumption) ?_
          rotate_left
          · (intro w hSw; (obtain ⟨c0, c1, c2, e0, e1, e2, e3⟩ := HL.out w hSw; clear hSw); go_simp; (try with_reducible rfl))
          try simp only [Act.put, List.getElem_toArray, List.getElem_cons_zero, List.getElem_cons_succ, List.setIfInBounds_toArray, List.set_cons_zero, List.set_cons_succ]
          refine wpAnyH_take (i := 18) (v := ?_) rfl (by kernel_rfl) (by kernel_rfl) (by kernel_rfl) (fun _ _ _ h => h) (Or.inl ⟨by rfl, ?_⟩) (by assumption) ?_
          rotate_left
          · (intro w hSw; (obtain ⟨c0, c1, c2, e0, e1, e2, e3⟩ := HL.out w hSw; clear hSw); go_simp; (try with_reducible rfl))
          try simp only [Act.put, List.getElem_toArray, List.getElem_cons_zero, List.getElem_cons_succ, List.setIfInBounds_toArray, List.set_cons_zero, List.set_cons_succ]
          refine wpAnyH_take (i := 19) (v := ?_) rfl (by kernel_rfl) (by kernel_rfl) (by kernel_rfl) (fun _ _ _ h => h) (Or.inl ⟨by rfl, ?_⟩) (by assumption) ?_
          rotate_left
          · (intro w hSw; (obtain ⟨c0, c1, c2, e0, e1, e2, e3⟩ := HL.out w hSw; clear hSw); go_simp; (try with_reducible rfl))
          try simp only [Act.put, List.getElem_toArray, List.getElem_cons_zero, List.getElem_cons_succ, List.setIfInBounds_toArray, List.set_cons_zero, List.set_cons_succ]
          refine wpAnyH_take (i := 20) (v := ?_) rfl (by kernel_rfl) (by kernel_rfl) (by kernel_rfl) (fun _ _ _ h => h) (Or.inl ⟨by rfl, ?_⟩) (by assumption) ?_
          rotate_left
          · (intro w hSw; (obtain ⟨c0, c1, c2, e0, e1, e2, e3⟩ := HL.out w hSw; clear hSw); go_simp; (try with_reducible rfl))
          try simp only [Act.put, List.getElem_toArray, List.getElem_cons_zero, List.getElem_cons_succ, List.setIfInBounds_toArray, List.set_cons_zero, List.set_cons_succ]
          refine wpAnyH_ready (rs := [21, 25]) (by kernel_rfl) (by simp) ?_
          refine AllReadyH.cons rfl (fun K hK => ?_) (AllReadyH.cons rfl (fun K hK => ?_) AllReadyH.nil)
          · rw [if_pos (by rfl)]
            go_simp
            with_reducible refine (CS.out _ HWD.out).mono ?_
            rintro e u2 ⟨a, c, rfl, ho, hb⟩
            have HU2 := Lib.hid (HWD.out.trans (hb.mono HWD.out.size))
            have HO2 := Lib.hid (OwnE.mono ho HWD.out.size)
            clear ho hb
            refine hK.out _ _ ?_ (fun hHeld => ?_)
            · exact HU2.out
            clear hK K
            try simp only [Act.put, List.getElem_toArray, List.getElem_cons_zero, List.getElem_cons_succ, List.setIfInBounds_toArray, List.set_cons_zero, List.set_cons_succ]
            refine wpAnyH_take (i := 22) (v := ?_) rfl (by kernel_rfl) (by kernel_rfl) (by kernel_rfl) (fun _ _ _ h => h) (Or.inl ⟨by rfl, ?_⟩) (by assumption) ?_
            rotate_left
            · (intro w hSw; (obtain ⟨c0, c1, c2, e0, e1, e2, e3⟩ := HL.out w hSw; clear hSw); go_simp; (try with_reducible rfl))
            try simp only [Act.put, List.getElem_toArray, List.getElem_cons_zero, List.getElem_cons_succ, List.setIfInBounds_toArray, List.set_cons_zero, List.set_cons_succ]
            refine wpAnyH_take (i := 23) (v := ?_) rfl (by kernel_rfl) (by kernel_rfl) (by kernel_rfl) (fun _ _ _ h => h) (Or.inl ⟨by rfl, ?_⟩) (by assumption) ?_
            rotate_left
            · (intro w hSw; (obtain ⟨c0, c1, c2, e0, e1, e2, e3⟩ := HL.out w hSw; clear hSw); go_simp; (try with_reducible rfl))
            try simp only [Act.put, List.getElem_toArray, List.getElem_cons_zero, List.getElem_cons_succ, List.setIfInBounds_toArray, List.set_cons_zero, List.set_cons_succ]
            refine wpAnyH_take (i := 24) (v := ?_) rfl (by kernel_rfl) (by kernel_rfl) (by kernel_rfl) (fun _ _ _ h => h) (Or.inl ⟨by rfl, ?_⟩) (by assumption) ?_
            rotate_left
            · (intro w hSw; (obtain ⟨c0, c1, c2, e0, e1, e2, e3⟩ := HL.out w hSw; clear hSw); go_simp; (try with_reducible rfl))
            try simp only [Act.put, List.getElem_toArray, List.getElem_cons_zero, List.getElem_cons_succ, List.setIfInBounds_toArray, List.set_cons_zero, List.set_cons_succ]
            refine wpAnyH_ready (rs := [25]) (by kernel_rfl) (by simp) ?_
            refine AllReadyH.cons rfl (fun K hK => ?_) AllReadyH.nil
            rw [if_pos (by rfl)]
            go_simp
            refine hK.out _ _ ?_ (fun hHeld => ?_)
            · exact HU2.out.alloc HU2.out.size _
            clear hK K
            try simp only [Act.put, List.getElem_toArray, List.getElem_cons_zero, List.getElem_cons_succ, List.setIfInBounds_toArray, List.set_cons_zero, List.set_cons_succ]
            refine wpAnyH_ready (rs := [26]) (by kernel_rfl) (by simp) ?_
            refine AllReadyH.cons rfl (fun K hK => ?_) AllReadyH.nil
            rw [if_pos (by rfl)]
            go_simp
            have HCUT := Lib.hid (cutS_last (SS := SS) (B := 31) HO2.out HU2.out)
            refine hK.out _ _ ?_ (fun hHeld => ?_)
            · exact HU2.out.alloc HU2.out.size _
            clear hK K
            try simp only [Act.put, List.getElem_toArray, List.getElem_cons_zero, List.getElem_cons_succ, List.setIfInBounds_toArray, List.set_cons_zero, List.set_cons_succ]
            refine wpAnyH_take (i := 27) (v := ?_) rfl (by kernel_rfl) (by kernel_rfl) (by kernel_rfl) (fun _ _ _ h => h) (Or.inl ⟨by rfl, ?_⟩) (by assumption) ?_
            rotate_left
            · (intro w hSw; (obtain ⟨c0, c1, c2, e0, e1, e2, e3⟩ := HL.out w hSw; clear hSw); go_simp; (try with_reducible rfl))
            try simp only [Act.put, List.getElem_toArray, List.getElem_cons_zero, List.getElem_cons_succ, List.setIfInBounds_toArray, List.set_cons_zero, List.set_cons_succ]
            refine wpAnyH_done (by kernel_rfl) (NoPanic.normal ?_) _
            go_wp2_with fail
            go_meet
            case rel => exact HCUT.out
          · rw [if_pos (by rfl)]
            go_simp
            refine hK.out _ _ ?_ (fun hHeld => ?_)
            · exact HWA.out
            clear hK K
            try simp only [Act.put, List.getElem_toArray, List.getElem_cons_zero, List.getElem_cons_succ, List.setIfInBounds_toArray, List.set_cons_zero, List.set_cons_succ]
            refine wpAnyH_ready (rs := [21]) (by kernel_rfl) (by simp) ?_
            refine AllReadyH.cons rfl (fun K hK => ?_) AllReadyH.nil
            rw [if_pos (by rfl)]
            go_simp
            with_reducible refine (CS.out _ HWA.out).mono ?_
            rintro e u2 ⟨a, c, rfl, ho, hb⟩
            have HU2 := Lib.hid (HWA.out.trans (hb.mono HWA.out.size))
            have HZ2 := Lib.hid ((hb.block wr.heap.size (by simp)).trans (heap_alloc_new wr (.cells #[.int .u64 0, .int .u64 0, .slice none 0 0] 31)))
            have HO2 := Lib.hid ho
            have z0 : u2.cell? ⟨wr.heap.size, 0, none⟩ = _ := Lib.cell_of_heap HZ2.out 0
            have z1 : u2.cell? ⟨wr.heap.size, 1, none⟩ = _ := Lib.cell_of_heap HZ2.out 1
            have z2 : u2.cell? ⟨wr.heap.size, 2, none⟩ = _ := Lib.cell_of_heap HZ2.out 2
            have zf : ∀ k, u2.frozen? ⟨wr.heap.size, k, none⟩ = false := fun k => Lib.frozen_of_heap HZ2.out k
            clear ho hb
            refine hK.out _ _ ?_ (fun hHeld => ?_)
            · exact HU2.out
            clear hK K
            try simp only [Act.put, List.getElem_toArray, List.getElem_cons_zero, List.getElem_cons_succ, List.setIfInBounds_toArray, List.set_cons_zero, List.set_cons_succ]
            refine wpAnyH_take (i := 22) (v := ?_) rfl (by kernel_rfl) (by kernel_rfl) (by kernel_rfl) (fun _ _ _ h => h) (Or.inl ⟨by rfl, ?_⟩) (by assumption) ?_
            rotate_left
            · (intro w hSw; (obtain ⟨c0, c1, c2, e0, e1, e2, e3⟩ := HL.out w hSw; clear hSw); go_simp; (try with_reducible rfl))
            try simp only [Act.put, List.getElem_toArray, List.getElem_cons_zero, List.getElem_cons_succ, List.setIfInBounds_toArray, List.set_cons_zero, List.set_cons_succ]
            refine wpAnyH_take (i := 23) (v := ?_) rfl (by kernel_rfl) (by kernel_rfl) (by kernel_rfl) (fun _ _ _ h => h) (Or.inl ⟨by rfl, ?_⟩) (by assumption) ?_
            rotate_left
            · (intro w hSw; (obtain ⟨c0, c1, c2, e0, e1, e2, e3⟩ := HL.out w hSw; clear hSw); go_simp; (try with_reducible rfl))
            try simp only [Act.put, List.getElem_toArray, List.getElem_cons_zero, List.getElem_cons_succ, List.setIfInBounds_toArray, List.set_cons_zero, List.set_cons_succ]
            refine wpAnyH_take (i := 24) (v := ?_) rfl (by kernel_rfl) (by kernel_rfl) (by kernel_rfl) (fun _ _ _ h => h) (Or.inl ⟨by rfl, ?_⟩) (by assumption) ?_
            rotate_left
            · (intro w hSw; (obtain ⟨c0, c1, c2, e0, e1, e2, e3⟩ := HL.out w hSw; clear hSw); go_simp; (try with_reducible rfl))
            try simp only [Act.put, List.getElem_toArray, List.getElem_cons_zero, List.getElem_cons_succ, List.setIfInBounds_toArray, List.set_cons_zero, List.set_cons_succ]
            refine wpAnyH_ready (rs := [26]) (by kernel_rfl) (by simp) ?_
            refine AllReadyH.cons rfl (fun K hK => ?_) AllReadyH.nil
            rw [if_pos (by rfl)]
            go_simp
            have HCUT := Lib.hid (cutS_first (SS := SS) (B := 31) (by simp) HO2.out HU2.out HZ2.out)
            refine hK.out _ _ ?_ (fun hHeld => ?_)
            · exact HCUT.out.bel
            clear hK K
            try simp only [Act.put, List.getElem_toArray, List.getElem_cons_zero, List.getElem_cons_succ, List.setIfInBounds_toArray, List.set_cons_zero, List.set_cons_succ]
            refine wpAnyH_take (i := 27) (v := ?_) rfl (by kernel_rfl) (by kernel_rfl) (by kernel_rfl) (fun _ _ _ h => h) (Or.inl ⟨by rfl, ?_⟩) (by assumption) ?_
            rotate_left
            · (intro w hSw; (obtain ⟨c0, c1, c2, e0, e1, e2, e3⟩ := HL.out w hSw; clear hSw); go_simp; (try with_reducible rfl))
            try simp only [Act.put, List.getElem_toArray, List.getElem_cons_zero, List.getElem_cons_succ, List.setIfInBounds_toArray, List.set_cons_zero, List.set_cons_succ]
            refine wpAnyH_done (by kernel_rfl) (NoPanic.normal ?_) _
            go_wp2_with fail
            go_meet
            case rel => exact HCUT.out
        case rest =>
          clear CS HL HWD HWA
          obtain ⟨gc, aw, cw, rfl, rfl, hgc, hbx, how, hbw⟩ := hcut
          have HLD : Hid (∀ W, Below wc.heap.size wc W → W.cell? ⟨h, 0, none⟩ = some (.int .u64 s) ∧ W.cell? ⟨h, 1, none⟩ = some (.int .u64 i) ∧ W.cell? ⟨h, 2, none⟩ = some (.slice ra i rc) ∧ W.cell? ⟨rb, off + i * 4, none⟩ = some (.int .i64 x.fr) ∧ W.cell? ⟨rb, off + i * 4 + 1, none⟩ = some (.int .u64 x.num) ∧ W.cell? ⟨rb, off + i * 4 + 2, none⟩ = some (.string x.bytes) ∧ W.cell? ⟨rb, off + i * 4 + 3, none⟩ = some (.string x.plain)) := Lib.hid (fun W hW => HLH.out W (hbw.trans (hW.mono hbw.size)))
          have CR : Hid (∀ W, Below wc.heap.size wc W → Calls Try.prog 18 #[.agg #[.int .u64 s, .int .u64 i, .slice ra i rc], .int .i64 x.fr, .int .u64 x.num, .string x.bytes, .string x.plain] W fun e w' => ∃ a c, e = .returned (.tuple #[.agg #[.int .u64 s, .int .u64 (i + 1 : Nat), .slice a (i + 1) c], .string SS]) ∧ OwnE 66 w' W.heap.size (.slice a (i + 1) c) (sld s L (i + 1)) ∧ Below W.heap.size W w') := Lib.hid (fun W hW => CR0.out W (hbw.trans (hW.mono hbw.size)))
          have HWD : Hid (Below wc.heap.size wc wc.drew) := Lib.hid (Below.refl wc.heap.size wc).drew
          have HWA : Hid (Below wc.heap.size wc (wc.alloc (.cells #[.int .u64 0, .int .u64 0, .slice none 0 0] 35)).drew) := Lib.hid (((Below.refl wc.heap.size wc).alloc (Nat.le_refl _) _).drew)
          have HGB := Lib.hid hbx
          have HOW := Lib.hid how
          have HBW := Lib.hid hbw
          clear hbx how hbw CR0 HLH
          go_wp2_with fail
          go_upto_region 9 with (fail)
          go_cut [14, 15] from 76 to 100 (fun v14 v15 W => CutS 35 66 s i L SS wc v14 v15 W)
          case first =>
            refine wp_region_noPanic ?_
            refine wp_region_held_drew (S := fun W : World => Below wc.heap.size wc W) (by kernel_rfl) ?_ (fun hHeld => ?_)
            · exact HWD.out
            refine wpAnyH_take (i := 0) (v := ?_) rfl (by kernel_rfl) (by kernel_rfl) (by kernel_rfl) (fun _ _ _ h => h) (Or.inl ⟨by rfl, ?_⟩) (by assumption) ?_
            rotate_left
            · (intro w hSw; (obtain ⟨c0, c1, c2, e0, e1, e2, e3⟩ := HLD.out w hSw; clear hSw); go_simp; (try with_reducible rfl))
            try simp only [Act.put, List.getElem_toArray, List.getElem_cons_zero, List.getElem_cons_succ, List.setIfInBounds_toArray, List.set_cons_zero, List.set_cons_succ]
            refine wpAnyH_take (i := 1) (v := ?_) rfl (by kernel_rfl) (by kernel_rfl) (by kernel_rfl) (fun _ _ _ h => h) (Or.inl ⟨by rfl, ?_⟩) (by assumption) ?_
            rotate_left
            · (intro w hSw; (obtain ⟨c0, c1, c2, e0, e1, e2, e3⟩ := HLD.out w hSw; clear hSw); go_simp; (try with_reducible rfl))
            try simp only [Act.put, List.getElem_toArray, List.getElem_cons_zero, List.getElem_cons_succ, List.setIfInBounds_toArray, List.set_cons_zero, List.set_cons_succ]
            refine wpAnyH_take (i := 2) (v := ?_) rfl (by kernel_rfl) (by kernel_rfl) (by kernel_rfl) (fun _ _ _ h => h) (Or.inl ⟨by rfl, ?_⟩) (by assumption) ?_
            rotate_left
            · (intro w hSw; (obtain ⟨c0, c1, c2, e0, e1, e2, e3⟩ := HLD.out w hSw; clear hSw); go_simp; (try with_reducible rfl))
            try simp only [Act.put, List.getElem_toArray, List.getElem_cons_zero, List.getElem_cons_succ, List.setIfInBounds_toArray, List.set_cons_zero, List.set_cons_succ]
            refine wpAnyH_take (i := 3) (v := ?_) rfl (by kernel_rfl) (by kernel_rfl) (by kernel_rfl) (fun _ _ _ h => h) (Or.inl ⟨by rfl, ?_⟩) (by assumption) ?_
            rotate_left
            · (intro w hSw; (obtain ⟨c0, c1, c2, e0, e1, e2, e3⟩ := HLD.out w hSw; clear hSw); go_simp; (try with_reducible rfl))
            try simp only [Act.put, List.getElem_toArray, List.getElem_cons_zero, List.getElem_cons_succ, List.setIfInBounds_toArray, List.set_cons_zero, List.set_cons_succ]
            refine wpAnyH_take (i := 4) (v := ?_) rfl (by kernel_rfl) (by kernel_rfl) (by kernel_rfl) (fun _ _ _ h => h) (Or.inl ⟨by rfl, ?_⟩) (by assumption) ?_
            rotate_left
            · (intro w hSw; (obtain ⟨c0, c1, c2, e0, e1, e2, e3⟩ := HLD.out w hSw; clear hSw); go_simp; (try with_reducible rfl))
            try simp only [Act.put, List.getElem_toArray, List.getElem_cons_zero, List.getElem_cons_succ, List.setIfInBounds_toArray, List.set_cons_zero, List.set_cons_succ]
            refine wpAnyH_take (i := 5) (v := ?_) rfl (by kernel_rfl) (by kernel_rfl) (by kernel_rfl) (fun _ _ _ h => h) (Or.inl ⟨by rfl, ?_⟩) (by assumption) ?_
            rotate_left
            · (intro w hSw; (obtain ⟨c0, c1, c2, e0, e1, e2, e3⟩ := HLD.out w hSw; clear hSw); go_simp; (try with_reducible rfl))
            try simp only [Act.put, List.getElem_toArray, List.getElem_cons_zero, List.getElem_cons_succ, List.setIfInBounds_toArray, List.set_cons_zero, List.set_cons_succ]
            refine wpAnyH_take (i := 6) (v := ?_) rfl (by kernel_rfl) (by kernel_rfl) (by kernel_rfl) (fun _ _ _ h => h) (Or.inl ⟨by rfl, ?_⟩) (by assumption) ?_
            rotate_left
            · (intro w hSw; (obtain ⟨c0, c1, c2, e0, e1, e2, e3⟩ := HLD.out w hSw; clear hSw); go_simp; (try with_reducible rfl))
            try simp only [Act.put, List.getElem_toArray, List.getElem_cons_zero, List.getElem_cons_succ, List.setIfInBounds_toArray, List.set_cons_zero, List.set_cons_succ]
            refine wpAnyH_take (i := 7) (v := ?_) rfl (by kernel_rfl) (by kernel_rfl) (by kernel_rfl) (fun _ _ _ h => h) (Or.inl ⟨by rfl, ?_⟩) (by assumption) ?_
            rotate_left
            · (intro w hSw; (obtain ⟨c0, c1, c2, e0, e1, e2, e3⟩ := HLD.out w hSw; clear hSw); go_simp; (try with_reducible rfl))
            try simp only [Act.put, List.getElem_toArray, List.getElem_cons_zero, List.getElem_cons_succ, List.setIfInBounds_toArray, List.set_cons_zero, List.set_cons_succ]
            refine wpAnyH_take (i := 8) (v := ?_) rfl (by kernel_rfl) (by kernel_rfl) (by kernel_rfl) (fun _ _ _ h => h) (Or.inl ⟨by rfl, ?_⟩) (by assumption) ?_
            rotate_left
            · (intro w hSw; (obtain ⟨c0, c1, c2, e0, e1, e2, e3⟩ := HLD.out w hSw; clear hSw); go_simp; (try with_reducible rfl))
            try simp only [Act.put, List.getElem_toArray, List.getElem_cons_zero, List.getElem_cons_succ, List.setIfInBounds_toArray, List.set_cons_zero, List.set_cons_succ]
            refine wpAnyH_take (i := 9) (v := ?_) rfl (by kernel_rfl) (by kernel_rfl) (by kernel_rfl) (fun _ _ _ h => h) (Or.inl ⟨by rfl, ?_⟩) (by assumption) ?_
            rotate_left
            · (intro w hSw; (obtain ⟨c0, c1, c2, e0, e1, e2, e3⟩ := HLD.out w hSw; clear hSw); go_simp; (try with_reducible rfl))
            try simp only [Act.put, List.getElem_toArray, List.getElem_cons_zero, List.getElem_cons_succ, List.setIfInBounds_toArray, List.set_cons_zero, List.set_cons_succ]
            refine wpAnyH_take (i := 10) (v := ?_) rfl (by kernel_rfl) (by kernel_rfl) (by kernel_rfl) (fun _ _ _ h => h) (Or.inl ⟨by rfl, ?_⟩) (by assumption) ?_
            rotate_left
            · (intro w hSw; (obtain ⟨c0, c1, c2, e0, e1, e2, e3⟩ := HLD.out w hSw; clear hSw); go_simp; (try with_reducible rfl))
            try simp only [Act.put, List.getElem_toArray, List.getElem_cons_zero, List.getElem_cons_succ, List.setIfInBounds_toArray, List.set_cons_zero, List.set_cons_succ]
            refine wpAnyH_take (i := 11) (v := ?_) rfl (by kernel_rfl) (by kernel_rfl) (by kernel_rfl) (fun _ _ _ h => h) (Or.inl ⟨by rfl, ?_⟩) (by assumption) ?_
            rotate_left
            · (intro w hSw; (obtain ⟨c0, c1, c2, e0, e1, e2, e3⟩ := HLD.out w hSw; clear hSw); go_simp; (try with_reducible rfl))
            try simp only [Act.put, List.getElem_toArray, List.getElem_cons_zero, List.getElem_cons_succ, List.setIfInBounds_toArray, List.set_cons_zero, List.set_cons_succ]
            refine wpAnyH_take (i := 12) (v := ?_) rfl (by kernel_rfl) (by kernel_rfl) (by kernel_rfl) (fun _ _ _ h => h) (Or.inl ⟨by rfl, ?_⟩) (by assumption) ?_
            rotate_left
            · (intro w hSw; (obtain ⟨c0, c1, c2, e0, e1, e2, e3⟩ := HLD.out w hSw; clear hSw); go_simp; (try with_reducible rfl))
            try simp only [Act.put, List.getElem_toArray, List.getElem_cons_zero, List.getElem_cons_succ, List.setIfInBounds_toArray, List.set_cons_zero, List.set_cons_succ]
            refine wpAnyH_take (i := 13) (v := ?_) rfl (by kernel_rfl) (by kernel_rfl) (by kernel_rfl) (fun _ _ _ h => h) (Or.inl ⟨by rfl, ?_⟩) (by assumption) ?_
            rotate_left
            · (intro w hSw; (obtain ⟨c0, c1, c2, e0, e1, e2, e3⟩ := HLD.out w hSw; clear hSw); go_simp; (try with_reducible rfl))
            try simp only [Act.put, List.getElem_toArray, List.getElem_cons_zero, List.getElem_cons_succ, List.setIfInBounds_toArray, List.set_cons_zero, List.set_cons_succ]
            refine wpAnyH_take (i := 14) (v := ?_) rfl (by kernel_rfl) (by kernel_rfl) (by kernel_rfl) (fun _ _ _ h => h) (Or.inl ⟨by rfl, ?_⟩) (by assumption) ?_
            rotate_left
            · (intro w hSw; (obtain ⟨c0, c1, c2, e0, e1, e2, e3⟩ := HLD.out w hSw; clear hSw); go_simp; (try with_reducible rfl))
            try simp only [Act.put, List.getElem_toArray, List.getElem_cons_zero, List.getElem_cons_succ, List.setIfInBounds_toArray, List.set_cons_zero, List.set_cons_succ]
            refine wpAnyH_take (i := 15) (v := ?_) rfl (by kernel_rfl) (by kernel_rfl) (by kernel_rfl) (fun _ _ _ h => h) (Or.inl ⟨by rfl, ?_⟩) (by assumption) ?_
            rotate_left
            · (intro w hSw; (obtain ⟨c0, c1, c2, e0, e1, e2, e3⟩ := HLD.out w hSw; clear hSw); go_simp; (try with_reducible rfl))
            try simp only [Act.put, List.getElem_toArray, List.getElem_cons_zero, List.getElem_cons_succ, List.setIfInBounds_toArray, List.set_cons_zero, List.set_cons_succ]
            refine wpAnyH_take (i := 16) (v := ?_) rfl (by kernel_rfl) (by kernel_rfl) (by kernel_rfl) (fun _ _ _ h => h) (Or.inl ⟨by rfl, ?_⟩) (by assumption) ?_
            rotate_left
            · (intro w hSw; (obtain ⟨c0, c1, c2, e0, e1, e2, e3⟩ := HLD.out w hSw; clear hSw); go_simp; (try with_reducible rfl))
            try simp only [Act.put, List.getElem_toArray, List.getElem_cons_zero, List.getElem_cons_succ, List.setIfInBounds_toArray, List.set_cons_zero, List.set_cons_succ]
            refine wpAnyH_take (i := 17) (v := ?_) rfl (by kernel_rfl) (by kernel_rfl) (by kernel_rfl) (fun _ _ _ h => h) (Or.inl ⟨by rfl, ?_⟩) (by assumption) ?_
            rotate_left
            · (intro w hSw; (obtain ⟨c0, c1, c2, e0, e1, e2, e3⟩ := HLD.out w hSw; clear hSw); go_simp; (try with_reducible rfl))
            try simp only [Act.put, List.getElem_toArray, List.getElem_cons_zero, List.getElem_cons_succ, List.setIfInBounds_toArray, List.set_cons_zero, List.set_cons_succ]
            refine wpAnyH_take (i := 18) (v := ?_) rfl (by kernel_rfl) (by kernel_rfl) (by kernel_rfl) (fun _ _ _ h => h) (Or.inl ⟨by rfl, ?_⟩) (by assumption) ?_
            rotate_left
            · (intro w hSw; (obtain ⟨c0, c1, c2, e0, e1, e2, e3⟩ := HLD.out w hSw; clear hSw); go_simp; (try with_reducible rfl))
            try simp only [Act.put, List.getElem_toArray, List.getElem_cons_zero, List.getElem_cons_succ, List.setIfInBounds_toArray, List.set_cons_zero, List.set_cons_succ]
            refine wpAnyH_take (i := 19) (v := ?_) rfl (by kernel_rfl) (by kernel_rfl) (by kernel_rfl) (fun _ _ _ h => h) (Or.inl ⟨by rfl, ?_⟩) (by assumption) ?_
            rotate_left
            · (intro w hSw; (obtain ⟨c0, c1, c2, e0, e1, e2, e3⟩ := HLD.out w hSw; clear hSw); go_simp; (try with_reducible rfl))
            try simp only [Act.put, List.getElem_toArray, List.getElem_cons_zero, List.getElem_cons_succ, List.setIfInBounds_toArray, List.set_cons_zero, List.set_cons_succ]
            refine wpAnyH_take (i := 20) (v := ?_) rfl (by kernel_rfl) (by kernel_rfl) (by kernel_rfl) (fun _ _ _ h => h) (Or.inl ⟨by rfl, ?_⟩) (by assumption) ?_
            rotate_left
            · (intro w hSw; (obtain ⟨c0, c1, c2, e0, e1, e2, e3⟩ := HLD.out w hSw; clear hSw); go_simp; (try with_reducible rfl))
            try simp only [Act.put, List.getElem_toArray, List.getElem_cons_zero, List.getElem_cons_succ, List.setIfInBounds_toArray, List.set_cons_zero, List.set_cons_succ]
            refine wpAnyH_ready (rs := [21, 25]) (by kernel_rfl) (by simp) ?_
            refine AllReadyH.cons rfl (fun K hK => ?_) (AllReadyH.cons rfl (fun K hK => ?_) AllReadyH.nil)
            · rw [if_pos (by rfl)]
              go_simp
              with_reducible refine (CR.out _ HWD.out).mono ?_
              rintro e u2 ⟨a, c, rfl, ho, hb⟩
              have HU2 := Lib.hid (HWD.out.trans (hb.mono HWD.out.size))
              have HO2 := Lib.hid (OwnE.mono ho HWD.out.size)
              clear ho hb
              refine hK.out _ _ ?_ (fun hHeld => ?_)
              · exact HU2.out
              clear hK K
              try simp only [Act.put, List.getElem_toArray, List.getElem_cons_zero, List.getElem_cons_succ, List.setIfInBounds_toArray, List.set_cons_zero, List.set_cons_succ]
              refine wpAnyH_take (i := 22) (v := ?_) rfl (by kernel_rfl) (by kernel_rfl) (by kernel_rfl) (fun _ _ _ h => h) (Or.inl ⟨by rfl, ?_⟩) (by assumption) ?_
              rotate_left
              · (intro w hSw; (obtain ⟨c0, c1, c2, e0, e1, e2, e3⟩ := HLD.out w hSw; clear hSw); go_simp; (try with_reducible rfl))
              try simp only [Act.put, List.getElem_toArray, List.getElem_cons_zero, List.getElem_cons_succ, List.setIfInBounds_toArray, List.set_cons_zero, List.set_cons_succ]
              refine wpAnyH_take (i := 23) (v := ?_) rfl (by kernel_rfl) (by kernel_rfl) (by kernel_rfl) (fun _ _ _ h => h) (Or.inl ⟨by rfl, ?_⟩) (by assumption) ?_
              rotate_left
              · (intro w hSw; (obtain ⟨c0, c1, c2, e0, e1, e2, e3⟩ := HLD.out w hSw; clear hSw); go_simp; (try with_reducible rfl))
              try simp only [Act.put, List.getElem_toArray, List.getElem_cons_zero, List.getElem_cons_succ, List.setIfInBounds_toArray, List.set_cons_zero, List.set_cons_succ]
              refine wpAnyH_take (i := 24) (v := ?_) rfl (by kernel_rfl) (by kernel_rfl) (by kernel_rfl) (fun _ _ _ h => h) (Or.inl ⟨by rfl, ?_⟩) (by assumption) ?_
              rotate_left
              · (intro w hSw; (obtain ⟨c0, c1, c2, e0, e1, e2, e3⟩ := HLD.out w hSw; clear hSw); go_simp; (try with_reducible rfl))
              try simp only [Act.put, List.getElem_toArray, List.getElem_cons_zero, List.getElem_cons_succ, List.setIfInBounds_toArray, List.set_cons_zero, List.set_cons_succ]
              refine wpAnyH_ready (rs := [25]) (by kernel_rfl) (by simp) ?_
              refine AllReadyH.cons rfl (fun K hK => ?_) AllReadyH.nil
              rw [if_pos (by rfl)]
              go_simp
              refine hK.out _ _ ?_ (fun hHeld => ?_)
              · exact HU2.out.alloc HU2.out.size _
              clear hK K
              try simp only [Act.put, List.getElem_toArray, List.getElem_cons_zero, List.getElem_cons_succ, List.setIfInBounds_toArray, List.set_cons_zero, List.set_cons_succ]
              refine wpAnyH_ready (rs := [26]) (by kernel_rfl) (by simp) ?_
              refine AllReadyH.cons rfl (fun K hK => ?_) AllReadyH.nil
              rw [if_pos (by rfl)]
              go_simp
              have HCUT := Lib.hid (cutS_last (SS := SS) (B := 35) HO2.out HU2.out)
              refine hK.out _ _ ?_ (fun hHeld => ?_)
              · exact HU2.out.alloc HU2.out.size _
              clear hK K
              try simp only [Act.put, List.getElem_toArray, List.getElem_cons_zero, List.getElem_cons_succ, List.setIfInBounds_toArray, List.set_cons_zero, List.set_cons_succ]
              refine wpAnyH_take (i := 27) (v := ?_) rfl (by kernel_rfl) (by kernel_rfl) (by kernel_rfl) (fun _ _ _ h => h) (Or.inl ⟨by rfl, ?_⟩) (by assumption) ?_
              rotate_left
              · (intro w hSw; (obtain ⟨c0, c1, c2, e0, e1, e2, e3⟩ := HLD.out w hSw; clear hSw); go_simp; (try with_reducible rfl))
              try simp only [Act.put, List.getElem_toArray, List.getElem_cons_zero, List.getElem_cons_succ, List.setIfInBounds_toArray, List.set_cons_zero, List.set_cons_succ]
              refine wpAnyH_done (by kernel_rfl) (NoPanic.normal ?_) _
              go_wp2_with fail
              go_meet
              case rel => exact HCUT.out
            · rw [if_pos (by rfl)]
              go_simp
              refine hK.out _ _ ?_ (fun hHeld => ?_)
              · exact HWA.out
              clear hK K
              try simp only [Act.put, List.getElem_toArray, List.getElem_cons_zero, List.getElem_cons_succ, List.setIfInBounds_toArray, List.set_cons_zero, List.set_cons_succ]
              refine wpAnyH_ready (rs := [21]) (by kernel_rfl) (by simp) ?_
              refine AllReadyH.cons rfl (fun K hK => ?_) AllReadyH.nil
              rw [if_pos (by rfl)]
              go_simp
              with_reducible refine (CR.out _ HWA.out).mono ?_
              rintro e u2 ⟨a, c, rfl, ho, hb⟩
              have HU2 := Lib.hid (HWA.out.trans (hb.mono HWA.out.size))
              have HZ2 := Lib.hid ((hb.block wc.heap.size (by simp)).trans (heap_alloc_new wc (.cells #[.int .u64 0, .int .u64 0, .slice none 0 0] 35)))
              have HO2 := Lib.hid ho
              have z0 : u2.cell? ⟨wc.heap.size, 0, none⟩ = _ := Lib.cell_of_heap HZ2.out 0
              have z1 : u2.cell? ⟨wc.heap.size, 1, none⟩ = _ := Lib.cell_of_heap HZ2.out 1
              have z2 : u2.cell? ⟨wc.heap.size, 2, none⟩ = _ := Lib.cell_of_heap HZ2.out 2
              have zf : ∀ k, u2.frozen? ⟨wc.heap.size, k, none⟩ = false := fun k => Lib.frozen_of_heap HZ2.out k
              clear ho hb
              refine hK.out _ _ ?_ (fun hHeld => ?_)
              · exact HU2.out
              clear hK K
              try simp only [Act.put, List.getElem_toArray, List.getElem_cons_zero, List.getElem_cons_succ, List.setIfInBounds_toArray, List.set_cons_zero, List.set_cons_succ]
              refine wpAnyH_take (i := 22) (v := ?_) rfl (by kernel_rfl) (by kernel_rfl) (by kernel_rfl) (fun _ _ _ h => h) (Or.inl ⟨by rfl, ?_⟩) (by assumption) ?_
              rotate_left
              · (intro w hSw; (obtain ⟨c0, c1, c2, e0, e1, e2, e3⟩ := HLD.out w hSw; clear hSw); go_simp; (try with_reducible rfl))
              try simp only [Act.put, List.getElem_toArray, List.getElem_cons_zero, List.getElem_cons_succ, List.setIfInBounds_toArray, List.set_cons_zero, List.set_cons_succ]
              refine wpAnyH_take (i := 23) (v := ?_) rfl (by kernel_rfl) (by kernel_rfl) (by kernel_rfl) (fun _ _ _ h => h) (Or.inl ⟨by rfl, ?_⟩) (by assumption) ?_
              rotate_left
              · (intro w hSw; (obtain ⟨c0, c1, c2, e0, e1, e2, e3⟩ := HLD.out w hSw; clear hSw); go_simp; (try with_reducible rfl))
              try simp only [Act.put, List.getElem_toArray, List.getElem_cons_zero, List.getElem_cons_succ, List.setIfInBounds_toArray, List.set_cons_zero, List.set_cons_succ]
              refine wpAnyH_take (i := 24) (v := ?_) rfl (by kernel_rfl) (by kernel_rfl) (by kernel_rfl) (fun _ _ _ h => h) (Or.inl ⟨by rfl, ?_⟩) (by assumption) ?_
              rotate_left
              · (intro w hSw; (obtain ⟨c0, c1, c2, e0, e1, e2, e3⟩ := HLD.out w hSw; clear hSw); go_simp; (try with_reducible rfl))
              try simp only [Act.put, List.getElem_toArray, List.getElem_cons_zero, List.getElem_cons_succ, List.setIfInBounds_toArray, List.set_cons_zero, List.set_cons_succ]
              refine wpAnyH_ready (rs := [26]) (by kernel_rfl) (by simp) ?_
              refine AllReadyH.cons rfl (fun K hK => ?_) AllReadyH.nil
              rw [if_pos (by rfl)]
              go_simp
              have HCUT := Lib.hid (cutS_first (SS := SS) (B := 35) (by simp) HO2.out HU2.out HZ2.out)
              refine hK.out _ _ ?_ (fun hHeld => ?_)
              · exact HCUT.out.bel
              clear hK K
              try simp only [Act.put, List.getElem_toArray, List.getElem_cons_zero, List.getElem_cons_succ, List.setIfInBounds_toArray, List.set_cons_zero, List.set_cons_succ]
              refine wpAnyH_take (i := 27) (v := ?_) rfl (by kernel_rfl) (by kernel_rfl) (by kernel_rfl) (fun _ _ _ h => h) (Or.inl ⟨by rfl, ?_⟩) (by assumption) ?_
              rotate_left
              · (intro w hSw; (obtain ⟨c0, c1, c2, e0, e1, e2, e3⟩ := HLD.out w hSw; clear hSw); go_simp; (try with_reducible rfl))
              try simp only [Act.put, List.getElem_toArray, List.getElem_cons_zero, List.getElem_cons_succ, List.setIfInBounds_toArray, List.set_cons_zero, List.set_cons_succ]
              refine wpAnyH_done (by kernel_rfl) (NoPanic.normal ?_) _
              go_wp2_with fail
              go_meet
              case rel => exact HCUT.out
          case rest =>
            clear CR HLD HWD HWA
            obtain ⟨gd, ar, cr, rfl, rfl, hgd, hbx2, hor, hbw2⟩ := hcut
            have HGB2 := (hbw2.block gc (Array.getElem?_eq_some_iff.1 HGB.out).1).trans HGB.out
            have hb2 : Below wr.heap.size wr wc := HBW.out.trans (hbw2.mono HBW.out.size)
            have how2 : OwnE 64 wc wr.heap.size (.slice aw (i + 1) cw) (sld s L (i + 1)) := own_go HOW.out hbw2
            have hor2 : OwnE 66 wc wr.heap.size (.slice ar (i + 1) cr) (sld s L (i + 1)) := OwnE.mono hor HBW.out.size
            have hgdl : wr.heap.size ≤ gd := Nat.le_trans HBW.out.size hgd
            clear hbw2 hor HGB HOW HBW hgd
            have hgx := (hb2.block g hgw).trans HI.out.box
            have hhx := (hb2.block h hhw).trans HI.out.rbx
            have x0 : wc.cell? ⟨gc, 0, none⟩ = _ := Lib.cell_of_heap HGB2 0
            have x1 : wc.cell? ⟨gc, 1, none⟩ = _ := Lib.cell_of_heap HGB2 1
            have x2 : wc.cell? ⟨gc, 2, none⟩ = _ := Lib.cell_of_heap HGB2 2
            have t0 : wc.cell? ⟨gd, 0, none⟩ = _ := Lib.cell_of_heap hbx2 0
            have t1 : wc.cell? ⟨gd, 1, none⟩ = _ := Lib.cell_of_heap hbx2 1
            have t2 : wc.cell? ⟨gd, 2, none⟩ = _ := Lib.cell_of_heap hbx2 2
            have y0 : wc.cell? ⟨g, 0, none⟩ = _ := Lib.cell_of_heap hgx 0
            have y1 : wc.cell? ⟨g, 1, none⟩ = _ := Lib.cell_of_heap hgx 1
            have y2 : wc.cell? ⟨g, 2, none⟩ = _ := Lib.cell_of_heap hgx 2
            have yf : ∀ k, wc.frozen? ⟨g, k, none⟩ = false := fun k => Lib.frozen_of_heap hgx k
            have q0 : wc.cell? ⟨h, 0, none⟩ = _ := Lib.cell_of_heap hhx 0
            have q1 : wc.cell? ⟨h, 1, none⟩ = _ := Lib.cell_of_heap hhx 1
            have q2 : wc.cell? ⟨h, 2, none⟩ = _ := Lib.cell_of_heap hhx 2
            have qf : ∀ k, wc.frozen? ⟨h, k, none⟩ = false := fun k => Lib.frozen_of_heap hhx k
            have hgh := HI.out.gh
            have hgc2 : g ≠ gc := by omega
            have hgd2 : g ≠ gd := by omega
            have hhc2 : h ≠ gc := by omega
            have hhd2 : h ≠ gd := by omega
            have hgh2 : g ≠ h := by omega
            have hlow := HI.out.low
            have hlowh : w0.heap.size ≤ h := by omega
            have HB5 := Lib.hid ((Below.setCell (Below.setCell (Below.setCell (Below.setCell (Below.setCell (Below.setCell (HI.out.bel.trans (hb2.mono HI.out.bel.size)) (p := ⟨g, 0, none⟩) hlow (.int .u64 s)) (p := ⟨g, 1, none⟩) hlow (.int .u64 ((i : Int) + 1))) (p := ⟨g, 2, none⟩) hlow (.slice aw (i + 1) cw)) (p := ⟨h, 0, none⟩) hlowh (.int .u64 s)) (p := ⟨h, 1, none⟩) hlowh (.int .u64 ((i : Int) + 1))) (p := ⟨h, 2, none⟩) hlowh (.slice ar (i + 1) cr)))
            have HBX5 : Hid ((((((((wc.setCell ⟨g, 0, none⟩ (.int .u64 s)).setCell ⟨g, 1, none⟩ (.int .u64 ((i : Int) + 1))).setCell ⟨g, 2, none⟩ (.slice aw (i + 1) cw)).setCell ⟨h, 0, none⟩ (.int .u64 s)).setCell ⟨h, 1, none⟩ (.int .u64 ((i : Int) + 1))).setCell ⟨h, 2, none⟩ (.slice ar (i + 1) cr))).heap[g]? = some (.cells #[.int .u64 s, .int .u64 ((i : Int) + 1), .slice aw (i + 1) cw] 31 (0, 0))) := Lib.hid ((Below.heap_setCell _ _ _ _ (by show g ≠ h; omega)).trans ((Below.heap_setCell _ _ _ _ (by show g ≠ h; omega)).trans ((Below.heap_setCell _ _ _ _ (by show g ≠ h; omega)).trans (three_put hgx _ _ _))))
            have HRX5 : Hid ((((((((wc.setCell ⟨g, 0, none⟩ (.int .u64 s)).setCell ⟨g, 1, none⟩ (.int .u64 ((i : Int) + 1))).setCell ⟨g, 2, none⟩ (.slice aw (i + 1) cw)).setCell ⟨h, 0, none⟩ (.int .u64 s)).setCell ⟨h, 1, none⟩ (.int .u64 ((i : Int) + 1))).setCell ⟨h, 2, none⟩ (.slice ar (i + 1) cr))).heap[h]? = some (.cells #[.int .u64 s, .int .u64 ((i : Int) + 1), .slice ar (i + 1) cr] 35 (0, 0))) := Lib.hid (three_put ((Below.heap_setCell _ _ _ _ (by show h ≠ g; omega)).trans ((Below.heap_setCell _ _ _ _ (by show h ≠ g; omega)).trans ((Below.heap_setCell _ _ _ _ (by show h ≠ g; omega)).trans hhx))) _ _ _)
            have HOW5 : Hid (RowE (((((((wc.setCell ⟨g, 0, none⟩ (.int .u64 s)).setCell ⟨g, 1, none⟩ (.int .u64 ((i : Int) + 1))).setCell ⟨g, 2, none⟩ (.slice aw (i + 1) cw)).setCell ⟨h, 0, none⟩ (.int .u64 s)).setCell ⟨h, 1, none⟩ (.int .u64 ((i : Int) + 1))).setCell ⟨h, 2, none⟩ (.slice ar (i + 1) cr))) (.slice aw (i + 1) cw) (sld s L (i + 1))) := Lib.hid (OwnE.row (T := 64) (B := wr.heap.size) (ownsRow_setCell_below (ownsRow_setCell_below (ownsRow_setCell_below (ownsRow_setCell_below (ownsRow_setCell_below (ownsRow_setCell_below how2 (a := ⟨g, 0, none⟩) hgw _) (a := ⟨g, 1, none⟩) hgw _) (a := ⟨g, 2, none⟩) hgw _) (a := ⟨h, 0, none⟩) hhw _) (a := ⟨h, 1, none⟩) hhw _) (a := ⟨h, 2, none⟩) hhw _))
            have HOR5 : Hid (RowE (((((((wc.setCell ⟨g, 0, none⟩ (.int .u64 s)).setCell ⟨g, 1, none⟩ (.int .u64 ((i : Int) + 1))).setCell ⟨g, 2, none⟩ (.slice aw (i + 1) cw)).setCell ⟨h, 0, none⟩ (.int .u64 s)).setCell ⟨h, 1, none⟩ (.int .u64 ((i : Int) + 1))).setCell ⟨h, 2, none⟩ (.slice ar (i + 1) cr))) (.slice ar (i + 1) cr) (sld s L (i + 1))) := Lib.hid (OwnE.row (T := 66) (B := wr.heap.size) (ownsRow_setCell_below (ownsRow_setCell_below (ownsRow_setCell_below (ownsRow_setCell_below (ownsRow_setCell_below (ownsRow_setCell_below hor2 (a := ⟨g, 0, none⟩) hgw _) (a := ⟨g, 1, none⟩) hgw _) (a := ⟨g, 2, none⟩) hgw _) (a := ⟨h, 0, none⟩) hhw _) (a := ⟨h, 1, none⟩) hhw _) (a := ⟨h, 2, none⟩) hhw _))
            have HS5 : Hid (h < (((((((wc.setCell ⟨g, 0, none⟩ (.int .u64 s)).setCell ⟨g, 1, none⟩ (.int .u64 ((i : Int) + 1))).setCell ⟨g, 2, none⟩ (.slice aw (i + 1) cw)).setCell ⟨h, 0, none⟩ (.int .u64 s)).setCell ⟨h, 1, none⟩ (.int .u64 ((i : Int) + 1))).setCell ⟨h, 2, none⟩ (.slice ar (i + 1) cr))).heap.size) := Lib.hid (by have := hb2.size; simp; omega)
            clear how2 hor2 hgx hhx HGB2 hbx2
            go_wp2_with fail
            generalize ((((((wc.setCell ⟨g, 0, none⟩ (.int .u64 s)).setCell ⟨g, 1, none⟩ (.int .u64 ((i : Int) + 1))).setCell ⟨g, 2, none⟩ (.slice aw (i + 1) cw)).setCell ⟨h, 0, none⟩ (.int .u64 s)).setCell ⟨h, 1, none⟩ (.int .u64 ((i : Int) + 1))).setCell ⟨h, 2, none⟩ (.slice ar (i + 1) cr)) = w5 at *
            clear x0 x1 x2 t0 t1 t2 y0 y1 y2 yf q0 q1 q2 qf hb2
            have HL5 : Hid (∀ W, Below w5.heap.size w5 W → W.cell? ⟨g, 0, none⟩ = some (.int .u64 s) ∧ W.cell? ⟨g, 1, none⟩ = some (.int .u64 ((i : Int) + 1)) ∧ W.cell? ⟨g, 2, none⟩ = some (.slice aw (i + 1) cw) ∧ W.cell? ⟨h, 0, none⟩ = some (.int .u64 s) ∧ W.cell? ⟨h, 1, none⟩ = some (.int .u64 ((i : Int) + 1)) ∧ W.cell? ⟨h, 2, none⟩ = some (.slice ar (i + 1) cr)) := Lib.hid (fun W hW => by
              have h1 := (hW.block g (by have := HS5.out; omega)).trans HBX5.out
              have h2 := (hW.block h HS5.out).trans HRX5.out
              exact ⟨Lib.cell_of_heap h1 0, Lib.cell_of_heap h1 1, Lib.cell_of_heap h1 2, Lib.cell_of_heap h2 0, Lib.cell_of_heap h2 1, Lib.cell_of_heap h2 2⟩)
            have CI : Hid (∀ W, Below w5.heap.size w5 W → Calls Try.prog 20 #[.agg #[.int .u64 s, .int .u64 ((i : Int) + 1), .slice aw (i + 1) cw]] W fun e w' => ∃ a c, e = .returned (.agg #[.int .u64 s, .int .u64 ((i : Int) + 1), .slice a (i + 1) c]) ∧ RowE w' (.slice a (i + 1) c) (sld s L (i + 1)) ∧ Below W.heap.size W w') := Lib.hid (fun W hW => by
              have h1 := its_any s ((i : Int) + 1) (.slice aw (i + 1) cw) (sld s L (i + 1)) W (HOW5.out.go hW) (by rw [sld_len]; omega)
              unfold ItsTo at h1
              rw [sld_len] at h1
              exact h1)
            have CM : Hid (∀ (a : Option Addr) (c : Nat) (W : World), Below w5.heap.size w5 W → RowE W (.slice a (i + 1) c) (sld s L (i + 1)) → Calls Try.prog 19 #[.agg #[.int .u64 s, .int .u64 ((i : Int) + 1), .slice a (i + 1) c], .agg #[.int .u64 s, .int .u64 ((i : Int) + 1), .slice ar (i + 1) cr]] W fun e w' => e = .returned (.bool true) ∧ Below W.heap.size W w') := Lib.hid (fun a c W hW h1 => same_any s ((i : Int) + 1) _ _ (sld s L (i + 1)) W h1 (HOR5.out.go hW) (by rw [sld_len]; omega))
            have CC := Lib.hid (fun W => cid_any SS W HSZ.out)
            have CD := Lib.hid (fun W => rcid_any SS W HSZ.out)
            obtain ⟨N, P, B, hV⟩ := opnV_form (opn z SS (sld s L (i + 1)))
            have CO : Hid (∀ W, Below w5.heap.size w5 W → Calls Try.prog 23 #[.agg #[.int .u64 s, .int .u64 ((i : Int) + 1), .slice aw (i + 1) cw], .int .i64 z, .string SS] W fun e w' => e = .returned (.tuple #[.int .u64 N, .string P, .bool B]) ∧ Below W.heap.size W w') := Lib.hid (fun W hW => by
              have h1 := open_any s ((i : Int) + 1) (.slice aw (i + 1) cw) (sld s L (i + 1)) z SS W (HOW5.out.go hW) (by rw [sld_len]; omega)
              rwa [hV] at h1)
            have CP : Hid (∀ W, Below w5.heap.size w5 W → Calls Try.prog 24 #[.agg #[.int .u64 s, .int .u64 ((i : Int) + 1), .slice ar (i + 1) cr], .int .i64 z, .string SS] W fun e w' => e = .returned (.tuple #[.int .u64 N, .string P, .bool B]) ∧ Below W.heap.size W w') := Lib.hid (fun W hW => by
              have h1 := ropen_any s ((i : Int) + 1) (.slice ar (i + 1) cr) (sld s L (i + 1)) z SS W (HOR5.out.go hW) (by rw [sld_len]; omega)
              rwa [hV] at h1)
            obtain ⟨KK, hKK⟩ : ∃ q, cidS SS = q := ⟨_, rfl⟩
            rw [hKK] at CC CD
            have n1 : (SS.toList != SS.toList) = false := by simp
            have n2 : (KK.toList != KK.toList) = false := by simp
            have n3 : (P.toList != P.toList) = false := by simp
            have n4 : (B != B) = false := by simp
            have HW5 : Hid (Below w5.heap.size w5 w5.drew) := Lib.hid (Below.refl w5.heap.size w5).drew
            clear hV hKK
            refine wp_region_noPanic ?_
            refine wp_region_held_drew (S := fun W : World => Below w5.heap.size w5 W) (by kernel_rfl) ?_ (fun hHeld => ?_)
            · exact HW5.out
            refine wpAnyH_take (i := 0) (v := ?_) rfl (by kernel_rfl) (by kernel_rfl) (by kernel_rfl) (fun _ _ _ h => h) (Or.inl ⟨by rfl, ?_⟩) (by assumption) ?_
            rotate_left
            · (intro w hSw; (obtain ⟨c0, c1, c2, d0, d1, d2⟩ := HL5.out w hSw; clear hSw); go_simp; (try with_reducible rfl))
            try simp only [Act.put, List.getElem_toArray, List.getElem_cons_zero, List.getElem_cons_succ, List.setIfInBounds_toArray, List.set_cons_zero, List.set_cons_succ]
            refine wpAnyH_take (i := 1) (v := ?_) rfl (by kernel_rfl) (by kernel_rfl) (by kernel_rfl) (fun _ _ _ h => h) (Or.inl ⟨by rfl, ?_⟩) (by assumption) ?_
            rotate_left
            · (intro w hSw; (obtain ⟨c0, c1, c2, d0, d1, d2⟩ := HL5.out w hSw; clear hSw); go_simp; (try with_reducible rfl))
            try simp only [Act.put, List.getElem_toArray, List.getElem_cons_zero, List.getElem_cons_succ, List.setIfInBounds_toArray, List.set_cons_zero, List.set_cons_succ]
            refine wpAnyH_take (i := 2) (v := ?_) rfl (by kernel_rfl) (by kernel_rfl) (by kernel_rfl) (fun _ _ _ h => h) (Or.inl ⟨by rfl, ?_⟩) (by assumption) ?_
            rotate_left
            · (intro w hSw; (obtain ⟨c0, c1, c2, d0, d1, d2⟩ := HL5.out w hSw; clear hSw); go_simp; (try with_reducible rfl))
            try simp only [Act.put, List.getElem_toArray, List.getElem_cons_zero, List.getElem_cons_succ, List.setIfInBounds_toArray, List.set_cons_zero, List.set_cons_succ]
            refine wpAnyH_take (i := 3) (v := ?_) rfl (by kernel_rfl) (by kernel_rfl) (by kernel_rfl) (fun _ _ _ h => h) (Or.inl ⟨by rfl, ?_⟩) (by assumption) ?_
            rotate_left
            · (intro w hSw; (obtain ⟨c0, c1, c2, d0, d1, d2⟩ := HL5.out w hSw; clear hSw); go_simp; (try with_reducible rfl))
            try simp only [Act.put, List.getElem_toArray, List.getElem_cons_zero, List.getElem_cons_succ, List.setIfInBounds_toArray, List.set_cons_zero, List.set_cons_succ]
            refine wpAnyH_take (i := 4) (v := ?_) rfl (by kernel_rfl) (by kernel_rfl) (by kernel_rfl) (fun _ _ _ h => h) (Or.inl ⟨by rfl, ?_⟩) (by assumption) ?_
            rotate_left
            · (intro w hSw; (obtain ⟨c0, c1, c2, d0, d1, d2⟩ := HL5.out w hSw; clear hSw); go_simp; (try with_reducible rfl))
            try simp only [Act.put, List.getElem_toArray, List.getElem_cons_zero, List.getElem_cons_succ, List.setIfInBounds_toArray, List.set_cons_zero, List.set_cons_succ]
            refine wpAnyH_take (i := 6) (v := ?_) rfl (by kernel_rfl) (by kernel_rfl) (by kernel_rfl) (fun _ _ _ h => h) (Or.inl ⟨by rfl, ?_⟩) (by assumption) ?_
            rotate_left
            · (intro w hSw; (obtain ⟨c0, c1, c2, d0, d1, d2⟩ := HL5.out w hSw; clear hSw); go_simp; (try with_reducible rfl))
            try simp only [Act.put, List.getElem_toArray, List.getElem_cons_zero, List.getElem_cons_succ, List.setIfInBounds_toArray, List.set_cons_zero, List.set_cons_succ]
            refine wpAnyH_ready (rs := [5]) (by kernel_rfl) (by simp) ?_
            refine AllReadyH.cons rfl (fun K hK => ?_) AllReadyH.nil
            rw [if_pos (by rfl)]
            go_simp
            with_reducible refine (CI.out _ hHeld).mono ?_
            rintro e u1 ⟨qa, qc, rfl, hq, hb⟩
            have HQ := Lib.hid hq
            clear hq
            refine hK.out _ _ ?_ (fun hHeld => ?_)
            · exact hHeld.trans (hb.mono hHeld.size)
            clear hK K
            try simp only [Act.put, List.getElem_toArray, List.getElem_cons_zero, List.getElem_cons_succ, List.setIfInBounds_toArray, List.set_cons_zero, List.set_cons_succ]
            refine wpAnyH_ready (rs := [7]) (by kernel_rfl) (by simp) ?_
            refine AllReadyH.cons rfl (fun K hK => ?_) AllReadyH.nil
            rw [if_pos (by rfl)]
            go_simp
            with_reducible refine (CM.out qa qc _ hHeld HQ.out).mono ?_
            rintro e u2 ⟨rfl, hb⟩
            refine hK.out _ _ ?_ (fun hHeld => ?_)
            · exact hHeld.trans (hb.mono hHeld.size)
            clear hK K
            try simp only [Act.put, List.getElem_toArray, List.getElem_cons_zero, List.getElem_cons_succ, List.setIfInBounds_toArray, List.set_cons_zero, List.set_cons_succ]
            refine wpAnyH_take (i := 8) (v := ?_) rfl (by kernel_rfl) (by kernel_rfl) (by kernel_rfl) (fun _ _ _ h => h) (Or.inl ⟨by rfl, ?_⟩) (by assumption) ?_
            rotate_left
            · (intro w hSw; (obtain ⟨c0, c1, c2, d0, d1, d2⟩ := HL5.out w hSw; clear hSw); go_simp; (try with_reducible rfl))
            try simp only [Act.put, List.getElem_toArray, List.getElem_cons_zero, List.getElem_cons_succ, List.setIfInBounds_toArray, List.set_cons_zero, List.set_cons_succ]
            refine wpAnyH_take (i := 9) (v := ?_) rfl (by kernel_rfl) (by kernel_rfl) (by kernel_rfl) (fun _ _ _ h => h) (Or.inl ⟨by rfl, ?_⟩) (by assumption) ?_
            rotate_left
            · (intro w hSw; (obtain ⟨c0, c1, c2, d0, d1, d2⟩ := HL5.out w hSw; clear hSw); go_simp; (try with_reducible rfl))
            try simp only [Act.put, List.getElem_toArray, List.getElem_cons_zero, List.getElem_cons_succ, List.setIfInBounds_toArray, List.set_cons_zero, List.set_cons_succ]
            refine wpAnyH_take (i := 10) (v := ?_) rfl (by kernel_rfl) (by kernel_rfl) (by kernel_rfl) (fun _ _ _ h => h) (Or.inl ⟨by rfl, ?_⟩) (by assumption) ?_
            rotate_left
            · (intro w hSw; (obtain ⟨c0, c1, c2, d0, d1, d2⟩ := HL5.out w hSw; clear hSw); go_simp; (try with_reducible rfl))
            try simp only [Act.put, List.getElem_toArray, List.getElem_cons_zero, List.getElem_cons_succ, List.setIfInBounds_toArray, List.set_cons_zero, List.set_cons_succ]
            refine wpAnyH_take (i := 11) (v := ?_) rfl (by kernel_rfl) (by kernel_rfl) (by kernel_rfl) (fun _ _ _ h => h) (Or.inl ⟨by rfl, ?_⟩) (by assumption) ?_
            rotate_left
            · (intro w hSw; (obtain ⟨c0, c1, c2, d0, d1, d2⟩ := HL5.out w hSw; clear hSw); go_simp; (try with_reducible rfl))
            try simp only [Act.put, List.getElem_toArray, List.getElem_cons_zero, List.getElem_cons_succ, List.setIfInBounds_toArray, List.set_cons_zero, List.set_cons_succ]
            refine wpAnyH_take (i := 13) (v := ?_) rfl (by kernel_rfl) (by kernel_rfl) (by kernel_rfl) (fun _ _ _ h => h) (Or.inl ⟨by rfl, ?_⟩) (by assumption) ?_
            rotate_left
            · (intro w hSw; (obtain ⟨c0, c1, c2, d0, d1, d2⟩ := HL5.out w hSw; clear hSw); go_simp; (try with_reducible rfl))
            try simp only [Act.put, List.getElem_toArray, List.getElem_cons_zero, List.getElem_cons_succ, List.setIfInBounds_toArray, List.set_cons_zero, List.set_cons_succ]
            refine wpAnyH_ready (rs := [12]) (by kernel_rfl) (by simp) ?_
            refine AllReadyH.cons rfl (fun K hK => ?_) AllReadyH.nil
            rw [if_pos (by rfl)]
            go_simp
            with_reducible refine (CC.out _).mono ?_
            rintro e u3 ⟨rfl, rfl⟩
            refine hK.out _ _ ?_ (fun hHeld => ?_)
            · exact hHeld
            clear hK K
            try simp only [Act.put, List.getElem_toArray, List.getElem_cons_zero, List.getElem_cons_succ, List.setIfInBounds_toArray, List.set_cons_zero, List.set_cons_succ]
            refine wpAnyH_ready (rs := [14]) (by kernel_rfl) (by simp) ?_
            refine AllReadyH.cons rfl (fun K hK => ?_) AllReadyH.nil
            rw [if_pos (by rfl)]
            go_simp
            with_reducible refine (CD.out _).mono ?_
            rintro e u4 ⟨rfl, rfl⟩
            refine hK.out _ _ ?_ (fun hHeld => ?_)
            · exact hHeld
            clear hK K
            try simp only [Act.put, List.getElem_toArray, List.getElem_cons_zero, List.getElem_cons_succ, List.setIfInBounds_toArray, List.set_cons_zero, List.set_cons_succ]
            refine wpAnyH_take (i := 15) (v := ?_) rfl (by kernel_rfl) (by kernel_rfl) (by kernel_rfl) (fun _ _ _ h => h) (Or.inl ⟨by rfl, ?_⟩) (by assumption) ?_
            rotate_left
            · (intro w hSw; (obtain ⟨c0, c1, c2, d0, d1, d2⟩ := HL5.out w hSw; clear hSw); go_simp; (try with_reducible rfl))
            try simp only [Act.put, List.getElem_toArray, List.getElem_cons_zero, List.getElem_cons_succ, List.setIfInBounds_toArray, List.set_cons_zero, List.set_cons_succ]
            refine wpAnyH_take (i := 16) (v := ?_) rfl (by kernel_rfl) (by kernel_rfl) (by kernel_rfl) (fun _ _ _ h => h) (Or.inl ⟨by rfl, ?_⟩) (by assumption) ?_
            rotate_left
            · (intro w hSw; (obtain ⟨c0, c1, c2, d0, d1, d2⟩ := HL5.out w hSw; clear hSw); go_simp; (try with_reducible rfl))
            try simp only [Act.put, List.getElem_toArray, List.getElem_cons_zero, List.getElem_cons_succ, List.setIfInBounds_toArray, List.set_cons_zero, List.set_cons_succ]
            refine wpAnyH_done (by kernel_rfl) (NoPanic.normal ?_) _
            have HB6 := Lib.hid hHeld
            clear hHeld
            obtain ⟨c0, c1, c2, d0, d1, d2⟩ := HL5.out _ HB6.out
            go_wp2_with fail
            with_reducible refine (CO.out _ HB6.out).mono ?_
            rintro e u6 ⟨rfl, hb⟩
            have HB7 := Lib.hid (HB6.out.trans (hb.mono HB6.out.size))
            clear hb c0 c1 c2 d0 d1 d2
            obtain ⟨c0, c1, c2, d0, d1, d2⟩ := HL5.out _ HB7.out
            go_wp2_with fail
            with_reducible refine (CP.out _ HB7.out).mono ?_
            rintro e u7 ⟨rfl, hb⟩
            have HB8 := Lib.hid (HB7.out.trans (hb.mono HB7.out.size))
            clear hb c0 c1 c2 d0 d1 d2
            have HREL : Hid (SealI s L w0 g h (i + 1) aw ar cw cr u7) := Lib.hid {
              box := (HB8.out.block g (by have := HS5.out; omega)).trans HBX5.out
              rbx := (HB8.out.block h HS5.out).trans HRX5.out
              row := HOW5.out.go HB8.out
              rrow := HOR5.out.go HB8.out
              bel := HB5.out.trans (HB8.out.mono HB5.out.size)
              low := hlow
              gh := hgh
              sz := Nat.lt_of_lt_of_le HS5.out HB8.out.size }
            go_wp2_with fail
            go_roundw
            case rel => exact ⟨i + 1, aw, ar, cw, cr, by omega, by go_num, HREL.out⟩
            case measure => simp [intOf]; omega
      · obtain rfl : i = n := by omega
        have c0 : wr.cell? ⟨g, 0, none⟩ = _ := Lib.cell_of_heap hI.box 0
        have c1 : wr.cell? ⟨g, 1, none⟩ = _ := Lib.cell_of_heap hI.box 1
        have c2 : wr.cell? ⟨g, 2, none⟩ = _ := Lib.cell_of_heap hI.box 2
        have hhw := hI.sz
        have HRBX := Lib.hid hI.rbx
        have HBL := Lib.hid hI.bel
        obtain ⟨N, P, B, hV⟩ := opnV_form (opn z other (sld s L i))
        have CO : Hid (Calls Try.prog 23 #[.agg #[.int .u64 s, .int .u64 i, .slice ba i bc], .int .i64 z, .string other] wr fun e w' => e = .returned (.tuple #[.int .u64 N, .string P, .bool B]) ∧ Below wr.heap.size wr w') := Lib.hid (by
          have h1 := open_any s (i : Int) (.slice ba i bc) (sld s L i) z other wr hI.row (by rw [sld_len]; omega)
          rwa [hV] at h1)
        have CP : Hid (∀ W, Below wr.heap.size wr W → Calls Try.prog 24 #[.agg #[.int .u64 s, .int .u64 i, .slice ra i rc], .int .i64 z, .string other] W fun e w' => e = .returned (.tuple #[.int .u64 N, .string P, .bool B]) ∧ Below W.heap.size W w') := Lib.hid (fun W hW => by
          have h1 := ropen_any s (i : Int) (.slice ra i rc) (sld s L i) z other W (hI.rrow.go hW) (by rw [sld_len]; omega)
          rwa [hV] at h1)
        obtain ⟨KK, hKK⟩ : ∃ q, cidS other = q := ⟨_, rfl⟩
        rw [hKK] at CCO CDO
        have n2 : (KK.toList == KK.toList) = true := by simp
        have n3 : (P.toList == P.toList) = true := by simp
        have n4 : (B == B) = true := by simp
        clear hI HI HC HALL hV hKK
        go_wp2_with fail
        with_reducible refine (CO.out).mono ?_
        rintro e u6 ⟨rfl, hb⟩
        have HB6 := Lib.hid hb
        have hh := (hb.block h hhw).trans HRBX.out
        have d0 : u6.cell? ⟨h, 0, none⟩ = _ := Lib.cell_of_heap hh 0
        have d1 : u6.cell? ⟨h, 1, none⟩ = _ := Lib.cell_of_heap hh 1
        have d2 : u6.cell? ⟨h, 2, none⟩ = _ := Lib.cell_of_heap hh 2
        clear hb hh c0 c1 c2
        go_wp2_with fail
        with_reducible refine (CP.out _ HB6.out).mono ?_
        rintro e u7 ⟨rfl, hb⟩
        have HB7 := Lib.hid (HBL.out.trans ((HB6.out.trans (hb.mono HB6.out.size)).mono HBL.out.size))
        clear hb d0 d1 d2
        go_wp2_with fail
        with_reducible refine (CCO.out _).mono ?_
        rintro e u8 ⟨rfl, rfl⟩
        go_wp2_with fail
        with_reducible refine (CDO.out _).mono ?_
        rintro e u8 ⟨rfl, rfl⟩
        go_wp2_with fail
        go_ret
        exact ⟨rfl, HB7.out⟩
  · have hOi : (300 : Int) < (lo : Int) := by omega
    clear hr hL hbd hn
    go_enter Try.func4, Try.ntmps4
    go_wp2_with fail
    with_reducible refine (CB.out).mono ?_
    rintro e w1 ⟨rfl, rfl⟩
    go_wp2_with fail
    with_reducible refine (shown_any _).mono ?_
    rintro e w1 ⟨rfl, hb⟩
    have HB1 := Lib.hid hb
    clear hb
    go_wp2_with fail
    go_ret
    exact ⟨rfl, HB1.out⟩
theorem law_seals (seed : Int) (a : Option Addr) (len cap : Nat) (L : List Ent) (z : Int) (other : ByteArray) (w : World) (w0 : (Lit.int .u64 seed).wf = true) (hL : L.length = len) (hn : len ≤ maxLen) (hr : RowE w (.slice a len cap) L) (w2 : (Lit.int .i64 z).wf = true) (w3 : other.size ≤ maxLen) :
    Calls Try.prog 4 #[.int .u64 seed, .slice a len cap, .int .i64 z, .string other] w fun e w' => e = .returned (.bool true) ∧ Below w.heap.size w w' := by
  obtain ⟨s, rfl⟩ := nat_u64 w0
  exact seals_law s a len cap L z other w hL hn hr
end Go.Proofs.Ytffjnfoleofffaa.Id
