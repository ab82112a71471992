/- The law IdealOwn, walked. By tools/gen-ideal-5.py. -/
import Derived.Test.YtffjnfoleofffaaIdO
namespace Go.Proofs.Ytffjnfoleofffaa.Id
open Go.RowKit Vm
set_option linter.unusedVariables false
set_option linter.unusedSimpArgs false

theorem CutS.bel {B T : TypeId} {s i : Nat} {L : List Ent} {SS : ByteArray} {wr : World} {vp vs : Value} {W : World} (h : CutS B T s i L SS wr vp vs W) : Below wr.heap.size wr W := by
  obtain ⟨g, a, c, h1, h2, h3, h4, h5, h6⟩ := h
  exact h6
/-- Between two rounds. -/
structure OwnI (s : Nat) (L : List Ent) (w0 : World) (g i : Nat) (ba aa : Option Addr) (bc ca : Nat) (W : World) : Prop where
  box : W.heap[g]? = some (.cells #[.int .u64 s, .int .u64 i, .slice ba i bc] 31 (0, 0))
  row : RowE W (.slice ba i bc) (sld s L i)
  all : OwnS W (g + 1) (.slice aa i ca) ((sld s L i).map (·.bytes))
  uniq : ∀ j k, j < k → k < i → (sldE s L j).bytes ≠ (sldE s L k).bytes
  bel : Below w0.heap.size w0 W
  low : w0.heap.size ≤ g
  sz : g + 1 < W.heap.size
theorem map_getD (s : Nat) (L : List Ent) (i j : Nat) (h : j < i) : ((sld s L i).map (·.bytes)).getD j ⟨#[]⟩ = (sldE s L j).bytes := by
  rw [List.getD_eq_getElem?_getD, List.getElem?_map]
  have := sld_get s L i j h
  rw [List.getD_eq_getElem?_getD] at this
  cases hq : (sld s L i)[j]? with
  | none => rw [List.getElem?_eq_none_iff, sld_len] at hq; omega
  | some e => rw [hq] at this; simp only [Option.getD_some] at this; simp [this]
set_option maxRecDepth 100000 in
set_option maxHeartbeats 16000000 in
theorem own_law (s : Nat) (a : Option Addr) (n cap : Nat) (L : List Ent) (other : ByteArray) (w0 : World) (hL : L.length = n) (hn : n ≤ maxLen) (hr : RowE w0 (.slice a n cap) L) :
    Calls Try.prog 7 #[.int .u64 s, .slice a n cap, .string other] w0 fun e w' => e = .returned (.bool true) ∧ Below w0.heap.size w0 w' := by
  have CB := Lib.hid (bounded_any (.slice a n cap) L w0 hr (by omega))
  obtain ⟨lo, hlo⟩ : ∃ k, other.size = k := ⟨_, rfl⟩
  obtain ⟨bd, hbd⟩ : ∃ b, bdL L = b := ⟨_, rfl⟩
  rw [hbd] at CB
  unfold maxLen at hn
  have hnI : (n : Int) ≤ 9223372036854775807 := by omega
  cases bd with
  | false =>
    clear hr hL hbd hn
    go_enter Try.func7, Try.ntmps7
    go_wp2_with fail
    with_reducible refine (CB.out).mono ?_
    rintro e w1 ⟨rfl, rfl⟩
    go_wp2_with fail
    with_reducible refine (shown_any _).mono ?_
    rintro e w1 ⟨rfl, hb⟩
    have HB1 := Lib.hid hb
    clear hb
    go_wp2_with fail
    go_ret
    exact ⟨rfl, HB1.out⟩
  | true =>
  by_cases hO : lo ≤ 300
  · have hOi : ¬ (300 : Int) < (lo : Int) := by omega
    obtain ⟨h20, hall⟩ := bdL_all hbd
    rw [hL] at h20 hall
    obtain ⟨-, hcap, hc⟩ := hr.cells
    have HC := Lib.hid hc
    have HALL := Lib.hid hall
    have hn20 : (n : Int) ≤ 20 := by omega
    have CN := Lib.hid (new_any s)
    clear hr hbd hall hc hn hnI hL hO
    go_enter Try.func7, Try.ntmps7
    go_wp2_with fail
    with_reducible refine (CB.out).mono ?_
    rintro e w1 ⟨rfl, rfl⟩
    go_wp2_with fail
    with_reducible refine (shown_any _).mono ?_
    rintro e w1 ⟨rfl, hb⟩
    have HB1 := Lib.hid hb
    clear hb
    go_wp2_with fail
    with_reducible refine (CN.out _).mono ?_
    rintro e w2 ⟨rfl, hb⟩
    have HB2 := Lib.hid (HB1.out.trans (hb.mono HB1.out.size))
    clear hb HB1
    have HI0 : Hid (OwnI s L w0 w2.heap.size 0 none (some ⟨w2.heap.size + 1, 0, none⟩) 0 0 ((w2.alloc (.cells #[.int .u64 s, .int .u64 0, .slice none 0 0] 31)).alloc (.cells #[] 9))) := Lib.hid {
      box := (Below.heap_alloc _ _ _ (by simp)).trans (heap_alloc_new w2 _)
      row := RowE.nil _
      all := by
        have h := World.ownsRow_made (base := w2.heap.size + 1) (e := 9) (size := 1) (w2.alloc (.cells #[.int .u64 s, .int .u64 0, .slice none 0 0] 31)) #[] 0 (by simp) (by unfold maxLen; omega) rfl
        rw [World.size_alloc] at h
        exact h
      uniq := fun j k h1 h2 => by omega
      bel := (HB2.out.alloc HB2.out.size _).alloc (by have := HB2.out.size; simp; omega) _
      low := HB2.out.size
      sz := by simp }
    clear HB2
    go_wp2_with fail
    generalize (w2.alloc (.cells #[.int .u64 s, .int .u64 0, .slice none 0 0] 31)).alloc (.cells #[] 9) = w3 at *
    generalize w2.heap.size = g at *
    go_loopw [8, 9] (fun v8 v9 wr => ∃ (i : Nat) (ba aa : Option Addr) (bc ca : Nat), i ≤ n ∧ v9 = .int .i64 (i : Nat) ∧ v8 = .slice aa i ca ∧ OwnI s L w0 g i ba aa bc ca wr) (fun _ v9 _ => n - (intOf v9).toNat)
    case atStart => exact ⟨0, none, _, 0, 0, Nat.zero_le _, rfl, rfl, HI0.out⟩
    case round =>
      clear HI0
      obtain ⟨i, ba, aa, bc, ca, hi, rfl, rfl, hI⟩ := hrel
      have HI := Lib.hid hI
      have hi0 : (0 : Int) ≤ (i : Int) := by omega
      by_cases hin : (i : Int) < (n : Int)
      · have hin2 : i < n := by omega
        obtain ⟨rb, off, rfl, hc⟩ := HC.out i hin2
        obtain ⟨hs1, hs2⟩ := HALL.out i hin2
        have HCR := Lib.hid (fun W (hW : Below wr.heap.size wr W) => hc W (hI.bel.trans (hW.mono hI.bel.size)))
        obtain ⟨x, hx⟩ : ∃ x, L.getD i eZ = x := ⟨_, rfl⟩
        rw [hx] at HCR hs1 hs2
        obtain ⟨SS, hSS⟩ : ∃ z, sealS s i x.bytes x.plain = z := ⟨_, rfl⟩
        have HSB : Hid ((sldE s L i).bytes = SS) := Lib.hid (by unfold sldE; rw [hx, hSS])
        have HBOX := Lib.hid hI.box
        have hgw : g < wr.heap.size := Nat.lt_of_succ_lt hI.sz
        have HL : Hid (∀ W, Below wr.heap.size wr W → W.cell? ⟨g, 0, none⟩ = some (.int .u64 s) ∧ W.cell? ⟨g, 1, none⟩ = some (.int .u64 i) ∧ W.cell? ⟨g, 2, none⟩ = some (.slice ba i bc) ∧ W.cell? ⟨rb, off + i * 4, none⟩ = some (.int .i64 x.fr) ∧ W.cell? ⟨rb, off + i * 4 + 1, none⟩ = some (.int .u64 x.num) ∧ W.cell? ⟨rb, off + i * 4 + 2, none⟩ = some (.string x.bytes) ∧ W.cell? ⟨rb, off + i * 4 + 3, none⟩ = some (.string x.plain)) := Lib.hid (fun W hW => by
          have hh := (hW.block g hgw).trans HBOX.out
          exact ⟨Lib.cell_of_heap hh 0, Lib.cell_of_heap hh 1, Lib.cell_of_heap hh 2, HCR.out W hW⟩)
        have CS : Hid (∀ W, Below wr.heap.size wr W → Calls Try.prog 17 #[.agg #[.int .u64 s, .int .u64 i, .slice ba i bc], .int .i64 x.fr, .int .u64 x.num, .string x.bytes, .string x.plain] W fun e w' => ∃ a c, e = .returned (.tuple #[.agg #[.int .u64 s, .int .u64 (i + 1 : Nat), .slice a (i + 1) c], .string SS]) ∧ OwnE 64 w' W.heap.size (.slice a (i + 1) c) (sld s L (i + 1)) ∧ Below W.heap.size W w') := Lib.hid (fun W hW => seal_round s i L _ x SS W hx hSS (by omega) (hI.row.go hW) hs1 hs2)
        have HWD : Hid (Below wr.heap.size wr wr.drew) := Lib.hid (Below.refl wr.heap.size wr).drew
        have HWA : Hid (Below wr.heap.size wr (wr.alloc (.cells #[.int .u64 0, .int .u64 0, .slice none 0 0] 31)).drew) := Lib.hid (((Below.refl wr.heap.size wr).alloc (Nat.le_refl _) _).drew)
        have HX := Lib.hid hx
        have HCC := Lib.hid hc
        clear hI hc hs1 hs2 hx hSS HCR
        go_wp2_with fail
        go_upto_region 8 with (fail)
        go_cut [10, 11] from 45 to 69 (fun v10 v11 W => CutS 31 64 s i L SS wr v10 v11 W)
        case first =>
          refine wp_region_noPanic ?_
          refine wp_region_held_drew (S := fun W : World => Below wr.heap.size wr W) (by kernel_rfl) ?_ (fun hHeld => ?_)
          · exact HWD.out
          refine wpAnyH_take (i := 0) (v := ?_) rfl (by kernel_rfl) (by kernel_rfl) (by kernel_rfl) (fun _ _ _ h => h) (Or.inl ⟨by rfl, ?_⟩) (by assumption) ?_
          rotate_left
          · (intro w hSw; (obtain ⟨c0, c1, c2, e0, e1, e2, e3⟩ := HL.out w hSw; clear hSw); go_simp; (try with_reducible rfl))
          try simp only [Act.put, List.getElem_toArray, List.getElem_cons_zero, List.getElem_cons_succ, List.setIfInBounds_toArray, List.set_cons_zero, List.set_cons_succ]
          refine wpAnyH_take (i := 1) (v := ?_) rfl (by kernel_rfl) (by kernel_rfl) (by kernel_rfl) (fun _ _ _ h => h) (Or.inl ⟨by rfl, ?_⟩) (by assumption) ?_
          rotate_left
          · (intro w hSw; (obtain ⟨c0, c1, c2, e0, e1, e2, e3⟩ := HL.out w hSw; clear hSw); go_simp; (try with_reducible rfl))
          try simp only [Act.put, List.getElem_toArray, List.getElem_cons_zero, List.getElem_cons_succ, List.setIfInBounds_toArray, List.set_cons_zero, List.set_cons_succ]
          refine wpAnyH_take (i := 2) (v := ?_) rfl (by kernel_rfl) (by kernel_rfl) (by kernel_rfl) (fun _ _ _ h => h) (Or.inl ⟨by rfl, ?_⟩) (by assumption) ?_
          rotate_left
          · (intro w hSw; (obtain ⟨c0, c1, c2, e0, e1, e2, e3⟩ := HL.out w hSw; clear hSw); go_simp; (try with_reducible rfl))
          try simp only [Act.put, List.getElem_toArray, List.getElem_cons_zero, List.getElem_cons_succ, List.setIfInBounds_toArray, List.set_cons_zero, List.set_cons_succ]
          refine wpAnyH_take (i := 3) (v := ?_) rfl (by kernel_rfl) (by kernel_rfl) (by kernel_rfl) (fun _ _ _ h => h) (Or.inl ⟨by rfl, ?_⟩) (by assumption) ?_
          rotate_left
          · (intro w hSw; (obtain ⟨c0, c1, c2, e0, e1, e2, e3⟩ := HL.out w hSw; clear hSw); go_simp; (try with_reducible rfl))
          try simp only [Act.put, List.getElem_toArray, List.getElem_cons_zero, List.getElem_cons_succ, List.setIfInBounds_toArray, List.set_cons_zero, List.set_cons_succ]
          refine wpAnyH_take (i := 4) (v := ?_) rfl (by kernel_rfl) (by kernel_rfl) (by kernel_rfl) (fun _ _ _ h => h) (Or.inl ⟨by rfl, ?_⟩) (by assumption) ?_
          rotate_left
          · (intro w hSw; (obtain ⟨c0, c1, c2, e0, e1, e2, e3⟩ := HL.out w hSw; clear hSw); go_simp; (try with_reducible rfl))
          try simp only [Act.put, List.getElem_toArray, List.getElem_cons_zero, List.getElem_cons_succ, List.setIfInBounds_toArray, List.set_cons_zero, List.set_cons_succ]
          refine wpAnyH_take (i := 5) (v := ?_) rfl (by kernel_rfl) (by kernel_rfl) (by kernel_rfl) (fun _ _ _ h => h) (Or.inl ⟨by rfl, ?_⟩) (by assumption) ?_
          rotate_left
          · (intro w hSw; (obtain ⟨c0, c1, c2, e0, e1, e2, e3⟩ := HL.out w hSw; clear hSw); go_simp; (try with_reducible rfl))
          try simp only [Act.put, List.getElem_toArray, List.getElem_cons_zero, List.getElem_cons_succ, List.setIfInBounds_toArray, List.set_cons_zero, List.set_cons_succ]
          refine wpAnyH_take (i := 6) (v := ?_) rfl (by kernel_rfl) (by kernel_rfl) (by kernel_rfl) (fun _ _ _ h => h) (Or.inl ⟨by rfl, ?_⟩) (by assumption) ?_
          rotate_left
          · (intro w hSw; (obtain ⟨c0, c1, c2, e0, e1, e2, e3⟩ := HL.out w hSw; clear hSw); go_simp; (try with_reducible rfl))
          try simp only [Act.put, List.getElem_toArray, List.getElem_cons_zero, List.getElem_cons_succ, List.setIfInBounds_toArray, List.set_cons_zero, List.set_cons_succ]
          refine wpAnyH_take (i := 7) (v := ?_) rfl (by kernel_rfl) (by kernel_rfl) (by kernel_rfl) (fun _ _ _ h => h) (Or.inl ⟨by rfl, ?_⟩) (by assumption) ?_
          rotate_left
          · (intro w hSw; (obtain ⟨c0, c1, c2, e0, e1, e2, e3⟩ := HL.out w hSw; clear hSw); go_simp; (try with_reducible rfl))
          try simp only [Act.put, List.getElem_toArray, List.getElem_cons_zero, List.getElem_cons_succ, List.setIfInBounds_toArray, List.set_cons_zero, List.set_cons_succ]
          refine wpAnyH_take (i := 8) (v := ?_) rfl (by kernel_rfl) (by kernel_rfl) (by kernel_rfl) (fun _ _ _ h => h) (Or.inl ⟨by rfl, ?_⟩) (by assumption) ?_
          rotate_left
          · (intro w hSw; (obtain ⟨c0, c1, c2, e0, e1, e2, e3⟩ := HL.out w hSw; clear hSw); go_simp; (try with_reducible rfl))
          try simp only [Act.put, List.getElem_toArray, List.getElem_cons_zero, List.getElem_cons_succ, List.setIfInBounds_toArray, List.set_cons_zero, List.set_cons_succ]
          refine wpAnyH_take (i := 9) (v := ?_) rfl (by kernel_rfl) (by kernel_rfl) (by kernel_rfl) (fun _ _ _ h => h) (Or.inl ⟨by rfl, ?_⟩) (by assumption) ?_
          rotate_left
          · (intro w hSw; (obtain ⟨c0, c1, c2, e0, e1, e2, e3⟩ := HL.out w hSw; clear hSw); go_simp; (try with_reducible rfl))
          try simp only [Act.put, List.getElem_toArray, List.getElem_cons_zero, List.getElem_cons_succ, List.setIfInBounds_toArray, List.set_cons_zero, List.set_cons_succ]
          refine wpAnyH_take (i := 10) (v := ?_) rfl (by kernel_rfl) (by kernel_rfl) (by kernel_rfl) (fun _ _ _ h => h) (Or.inl ⟨by rfl, ?_⟩) (by assumption) ?_
          rotate_left
          · (intro w hSw; (obtain ⟨c0, c1, c2, e0, e1, e2, e3⟩ := HL.out w hSw; clear hSw); go_simp; (try with_reducible rfl))
          try simp only [Act.put, List.getElem_toArray, List.getElem_cons_zero, List.getElem_cons_succ, List.setIfInBounds_toArray, List.set_cons_zero, List.set_cons_succ]
          refine wpAnyH_take (i := 11) (v := ?_) rfl (by kernel_rfl) (by kernel_rfl) (by kernel_rfl) (fun _ _ _ h => h) (Or.inl ⟨by rfl, ?_⟩) (by assumption) ?_
          rotate_left
          · (intro w hSw; (obtain ⟨c0, c1, c2, e0, e1, e2, e3⟩ := HL.out w hSw; clear hSw); go_simp; (try with_reducible rfl))
          try simp only [Act.put, List.getElem_toArray, List.getElem_cons_zero, List.getElem_cons_succ, List.setIfInBounds_toArray, List.set_cons_zero, List.set_cons_succ]
          refine wpAnyH_take (i := 12) (v := ?_) rfl (by kernel_rfl) (by kernel_rfl) (by kernel_rfl) (fun _ _ _ h => h) (Or.inl ⟨by rfl, ?_⟩) (by assumption) ?_
          rotate_left
          · (intro w hSw; (obtain ⟨c0, c1, c2, e0, e1, e2, e3⟩ := HL.out w hSw; clear hSw); go_simp; (try with_reducible rfl))
          try simp only [Act.put, List.getElem_toArray, List.getElem_cons_zero, List.getElem_cons_succ, List.setIfInBounds_toArray, List.set_cons_zero, List.set_cons_succ]
          refine wpAnyH_take (i := 13) (v := ?_) rfl (by kernel_rfl) (by kernel_rfl) (by kernel_rfl) (fun _ _ _ h => h) (Or.inl ⟨by rfl, ?_⟩) (by assumption) ?_
          rotate_left
          · (intro w hSw; (obtain ⟨c0, c1, c2, e0, e1, e2, e3⟩ := HL.out w hSw; clear hSw); go_simp; (try with_reducible rfl))
          try simp only [Act.put, List.getElem_toArray, List.getElem_cons_zero, List.getElem_cons_succ, List.setIfInBounds_toArray, List.set_cons_zero, List.set_cons_succ]
          refine wpAnyH_take (i := 14) (v := ?_) rfl (by kernel_rfl) (by kernel_rfl) (by kernel_rfl) (fun _ _ _ h => h) (Or.inl ⟨by rfl, ?_⟩) (by assumption) ?_
          rotate_left
          · (intro w hSw; (obtain ⟨c0, c1, c2, e0, e1, e2, e3⟩ := HL.out w hSw; clear hSw); go_simp; (try with_reducible rfl))
          try simp only [Act.put, List.getElem_toArray, List.getElem_cons_zero, List.getElem_cons_succ, List.setIfInBounds_toArray, List.set_cons_zero, List.set_cons_succ]
          refine wpAnyH_take (i := 15) (v := ?_) rfl (by kernel_rfl) (by kernel_rfl) (by kernel_rfl) (fun _ _ _ h => h) (Or.inl ⟨by rfl, ?_⟩) (by assumption) ?_
          rotate_left
          · (intro w hSw; (obtain ⟨c0, c1, c2, e0, e1, e2, e3⟩ := HL.out w hSw; clear hSw); go_simp; (try with_reducible rfl))
          try simp only [Act.put, List.getElem_toArray, List.getElem_cons_zero, List.getElem_cons_succ, List.setIfInBounds_toArray, List.set_cons_zero, List.set_cons_succ]
          refine wpAnyH_take (i := 16) (v := ?_) rfl (by kernel_rfl) (by kernel_rfl) (by kernel_rfl) (fun _ _ _ h => h) (Or.inl ⟨by rfl, ?_⟩) (by assumption) ?_
          rotate_left
          · (intro w hSw; (obtain ⟨c0, c1, c2, e0, e1, e2, e3⟩ := HL.out w hSw; clear hSw); go_simp; (try with_reducible rfl))
          try simp only [Act.put, List.getElem_toArray, List.getElem_cons_zero, List.getElem_cons_succ, List.setIfInBounds_toArray, List.set_cons_zero, List.set_cons_succ]
          refine wpAnyH_take (i := 17) (v := ?_) rfl (by kernel_rfl) (by kernel_rfl) (by kernel_rfl) (fun _ _ _ h => h) (Or.inl ⟨by rfl, ?_⟩) (by assumption) ?_
          rotate_left
          · (intro w hSw; (obtain ⟨c0, c1, c2, e0, e1, e2, e3⟩ := HL.out w hSw; clear hSw); go_simp; (try with_reducible rfl))
          try simp only [Act.put, List.getElem_toArray, List.getElem_cons_zero, List.getElem_cons_succ, List.setIfInBounds_toArray, List.set_cons_zero, List.set_cons_succ]
          refine wpAnyH_take (i := 18) (v := ?_) rfl (by kernel_rfl) (by kernel_rfl) (by kernel_rfl) (fun _ _ _ h => h) (Or.inl ⟨by rfl, ?_⟩) (by assumption) ?_
          rotate_left
          · (intro w hSw; (obtain ⟨c0, c1, c2, e0, e1, e2, e3⟩ := HL.out w hSw; clear hSw); go_simp; (try with_reducible rfl))
          try simp only [Act.put, List.getElem_toArray, List.getElem_cons_zero, List.getElem_cons_succ, List.setIfInBounds_toArray, List.set_cons_zero, List.set_cons_succ]
          refine wpAnyH_take (i := 19) (v := ?_) rfl (by kernel_rfl) (by kernel_rfl) (by kernel_rfl) (fun _ _ _ h => h) (Or.inl ⟨by rfl, ?_⟩) (by assumption) ?_
          rotate_left
          · (intro w hSw; (obtain ⟨c0, c1, c2, e0, e1, e2, e3⟩ := HL.out w hSw; clear hSw); go_simp; (try with_reducible rfl))
          try simp only [Act.put, List.getElem_toArray, List.getElem_cons_zero, List.getElem_cons_succ, List.setIfInBounds_toArray, List.set_cons_zero, List.set_cons_succ]
          refine wpAnyH_take (i := 20) (v := ?_) rfl (by kernel_rfl) (by kernel_rfl) (by kernel_rfl) (fun _ _ _ h => h) (Or.inl ⟨by rfl, ?_⟩) (by assumption) ?_
          rotate_left
          · (intro w hSw; (obtain ⟨c0, c1, c2, e0, e1, e2, e3⟩ := HL.out w hSw; clear hSw); go_simp; (try with_reducible rfl))
          try simp only [Act.put, List.getElem_toArray, List.getElem_cons_zero, List.getElem_cons_succ, List.setIfInBounds_toArray, List.set_cons_zero, List.set_cons_succ]
          refine wpAnyH_ready (rs := [21, 25]) (by kernel_rfl) (by simp) ?_
          refine AllReadyH.cons rfl (fun K hK => ?_) (AllReadyH.cons rfl (fun K hK => ?_) AllReadyH.nil)
          · rw [if_pos (by rfl)]
            go_simp
            with_reducible refine (CS.out _ HWD.out).mono ?_
            rintro e u2 ⟨a, c, rfl, ho, hb⟩
            have HU2 := Lib.hid (HWD.out.trans (hb.mono HWD.out.size))
            have HO2 := Lib.hid (OwnE.mono ho HWD.out.size)
            clear ho hb
            refine hK.out _ _ ?_ (fun hHeld => ?_)
            · exact HU2.out
            clear hK K
            try simp only [Act.put, List.getElem_toArray, List.getElem_cons_zero, List.getElem_cons_succ, List.setIfInBounds_toArray, List.set_cons_zero, List.set_cons_succ]
            refine wpAnyH_take (i := 22) (v := ?_) rfl (by kernel_rfl) (by kernel_rfl) (by kernel_rfl) (fun _ _ _ h => h) (Or.inl ⟨by rfl, ?_⟩) (by assumption) ?_
            rotate_left
            · (intro w hSw; (obtain ⟨c0, c1, c2, e0, e1, e2, e3⟩ := HL.out w hSw; clear hSw); go_simp; (try with_reducible rfl))
            try simp only [Act.put, List.getElem_toArray, List.getElem_cons_zero, List.getElem_cons_succ, List.setIfInBounds_toArray, List.set_cons_zero, List.set_cons_succ]
            refine wpAnyH_take (i := 23) (v := ?_) rfl (by kernel_rfl) (by kernel_rfl) (by kernel_rfl) (fun _ _ _ h => h) (Or.inl ⟨by rfl, ?_⟩) (by assumption) ?_
            rotate_left
            · (intro w hSw; (obtain ⟨c0, c1, c2, e0, e1, e2, e3⟩ := HL.out w hSw; clear hSw); go_simp; (try with_reducible rfl))
            try simp only [Act.put, List.getElem_toArray, List.getElem_cons_zero, List.getElem_cons_succ, List.setIfInBounds_toArray, List.set_cons_zero, List.set_cons_succ]
            refine wpAnyH_take (i := 24) (v := ?_) rfl (by kernel_rfl) (by kernel_rfl) (by kernel_rfl) (fun _ _ _ h => h) (Or.inl ⟨by rfl, ?_⟩) (by assumption) ?_
            rotate_left
            · (intro w hSw; (obtain ⟨c0, c1, c2, e0, e1, e2, e3⟩ := HL.out w hSw; clear hSw); go_simp; (try with_reducible rfl))
            try simp only [Act.put, List.getElem_toArray, List.getElem_cons_zero, List.getElem_cons_succ, List.setIfInBounds_toArray, List.set_cons_zero, List.set_cons_succ]
            refine wpAnyH_ready (rs := [25]) (by kernel_rfl) (by simp) ?_
            refine AllReadyH.cons rfl (fun K hK => ?_) AllReadyH.nil
            rw [if_pos (by rfl)]
            go_simp
            refine hK.out _ _ ?_ (fun hHeld => ?_)
            · exact HU2.out.alloc HU2.out.size _
            clear hK K
            try simp only [Act.put, List.getElem_toArray, List.getElem_cons_zero, List.getElem_cons_succ, List.setIfInBounds_toArray, List.set_cons_zero, List.set_cons_succ]
            refine wpAnyH_ready (rs := [26]) (by kernel_rfl) (by simp) ?_
            refine AllReadyH.cons rfl (fun K hK => ?_) AllReadyH.nil
            rw [if_pos (by rfl)]
            go_simp
            have HCUT := Lib.hid (cutS_last (SS := SS) (B := 31) HO2.out HU2.out)
            refine hK.out _ _ ?_ (fun hHeld => ?_)
            · exact HU2.out.alloc HU2.out.size _
            clear hK K
            try simp only [Act.put, List.getElem_toArray, List.getElem_cons_zero, List.getElem_cons_succ, List.setIfInBounds_toArray, List.set_cons_zero, List.set_cons_succ]
            refine wpAnyH_take (i := 27) (v := ?_) rfl (by kernel_rfl) (by kernel_rfl) (by kernel_rfl) (fun _ _ _ h => h) (Or.inl ⟨by rfl, ?_⟩) (by assumption) ?_
            rotate_left
            · (intro w hSw; (obtain ⟨c0, c1, c2, e0, e1, e2, e3⟩ := HL.out w hSw; clear hSw); go_simp; (try with_reducible rfl))
            try simp only [Act.put, List.getElem_toArray, List.getElem_cons_zero, List.getElem_cons_succ, List.setIfInBounds_toArray, List.set_cons_zero, List.set_cons_succ]
            refine wpAnyH_done (by kernel_rfl) (NoPanic.normal ?_) _
            go_wp2_with fail
            go_meet
            case rel => exact HCUT.out
          · rw [if_pos (by rfl)]
            go_simp
            refine hK.out _ _ ?_ (fun hHeld => ?_)
            · exact HWA.out
            clear hK K
            try simp only [Act.put, List.getElem_toArray, List.getElem_cons_zero, List.getElem_cons_succ, List.setIfInBounds_toArray, List.set_cons_zero, List.set_cons_succ]
            refine wpAnyH_ready (rs := [21]) (by kernel_rfl) (by simp) ?_
            refine AllReadyH.cons rfl (fun K hK => ?_) AllReadyH.nil
            rw [if_pos (by rfl)]
            go_simp
            with_reducible refine (CS.out _ HWA.out).mono ?_
            rintro e u2 ⟨a, c, rfl, ho, hb⟩
            have HU2 := Lib.hid (HWA.out.trans (hb.mono HWA.out.size))
            have HZ2 := Lib.hid ((hb.block wr.heap.size (by simp)).trans (heap_alloc_new wr (.cells #[.int .u64 0, .int .u64 0, .slice none 0 0] 31)))
            have HO2 := Lib.hid ho
            have z0 : u2.cell? ⟨wr.heap.size, 0, none⟩ = _ := Lib.cell_of_heap HZ2.out 0
            have z1 : u2.cell? ⟨wr.heap.size, 1, none⟩ = _ := Lib.cell_of_heap HZ2.out 1
            have z2 : u2.cell? ⟨wr.heap.size, 2, none⟩ = _ := Lib.cell_of_heap HZ2.out 2
            have zf : ∀ k, u2.frozen? ⟨wr.heap.size, k, none⟩ = false := fun k => Lib.frozen_of_heap HZ2.out k
            clear ho hb
            refine hK.out _ _ ?_ (fun hHeld => ?_)
            · exact HU2.out
            clear hK K
            try simp only [Act.put, List.getElem_toArray, List.getElem_cons_zero, List.getElem_cons_succ, List.setIfInBounds_toArray, List.set_cons_zero, List.set_cons_succ]
            refine wpAnyH_take (i := 22) (v := ?_) rfl (by kernel_rfl) (by kernel_rfl) (by kernel_rfl) (fun _ _ _ h => h) (Or.inl ⟨by rfl, ?_⟩) (by assumption) ?_
            rotate_left
            · (intro w hSw; (obtain ⟨c0, c1, c2, e0, e1, e2, e3⟩ := HL.out w hSw; clear hSw); go_simp; (try with_reducible rfl))
            try simp only [Act.put, List.getElem_toArray, List.getElem_cons_zero, List.getElem_cons_succ, List.setIfInBounds_toArray, List.set_cons_zero, List.set_cons_succ]
            refine wpAnyH_take (i := 23) (v := ?_) rfl (by kernel_rfl) (by kernel_rfl) (by kernel_rfl) (fun _ _ _ h => h) (Or.inl ⟨by rfl, ?_⟩) (by assumption) ?_
            rotate_left
            · (intro w hSw; (obtain ⟨c0, c1, c2, e0, e1, e2, e3⟩ := HL.out w hSw; clear hSw); go_simp; (try with_reducible rfl))
            try simp only [Act.put, List.getElem_toArray, List.getElem_cons_zero, List.getElem_cons_succ, List.setIfInBounds_toArray, List.set_cons_zero, List.set_cons_succ]
            refine wpAnyH_take (i := 24) (v := ?_) rfl (by kernel_rfl) (by kernel_rfl) (by kernel_rfl) (fun _ _ _ h => h) (Or.inl ⟨by rfl, ?_⟩) (by assumption) ?_
            rotate_left
            · (intro w hSw; (obtain ⟨c0, c1, c2, e0, e1, e2, e3⟩ := HL.out w hSw; clear hSw); go_simp; (try with_reducible rfl))
            try simp only [Act.put, List.getElem_toArray, List.getElem_cons_zero, List.getElem_cons_succ, List.setIfInBounds_toArray, List.set_cons_zero, List.set_cons_succ]
            refine wpAnyH_ready (rs := [26]) (by kernel_rfl) (by simp) ?_
            refine AllReadyH.cons rfl (fun K hK => ?_) AllReadyH.nil
            rw [if_pos (by rfl)]
            go_simp
            have HCUT := Lib.hid (cutS_first (SS := SS) (B := 31) (by simp) HO2.out HU2.out HZ2.out)
            refine hK.out _ _ ?_ (fun hHeld => ?_)
            · exact HCUT.out.bel
            clear hK K
            try simp only [Act.put, List.getElem_toArray, List.getElem_cons_zero, List.getElem_cons_succ, List.setIfInBounds_toArray, List.set_cons_zero, List.set_cons_succ]
            refine wpAnyH_take (i := 27) (v := ?_) rfl (by kernel_rfl) (by kernel_rfl) (by kernel_rfl) (fun _ _ _ h => h) (Or.inl ⟨by rfl, ?_⟩) (by assumption) ?_
            rotate_left
            · (intro w hSw; (obtain ⟨c0, c1, c2, e0, e1, e2, e3⟩ := HL.out w hSw; clear hSw); go_simp; (try with_reducible rfl))
            try simp only [Act.put, List.getElem_toArray, List.getElem_cons_zero, List.getElem_cons_succ, List.setIfInBounds_toArray, List.set_cons_zero, List.set_cons_succ]
            refine wpAnyH_done (by kernel_rfl) (NoPanic.normal ?_) _
            go_wp2_with fail
            go_meet
            case rel => exact HCUT.out
        case rest =>
          clear CS HL HWD HWA
          obtain ⟨gc, aw, cw, rfl, rfl, hgc, hbx, how, hbw⟩ := hcut
          have HI2 := HI.out
          have HGX := Lib.hid ((hbw.block g hgw).trans HI2.box)
          have hgc2 : g ≠ gc := by omega
          have x0 : wc.cell? ⟨gc, 0, none⟩ = _ := Lib.cell_of_heap hbx 0
          have x1 : wc.cell? ⟨gc, 1, none⟩ = _ := Lib.cell_of_heap hbx 1
          have x2 : wc.cell? ⟨gc, 2, none⟩ = _ := Lib.cell_of_heap hbx 2
          have y0 : wc.cell? ⟨g, 0, none⟩ = _ := Lib.cell_of_heap HGX.out 0
          have y1 : wc.cell? ⟨g, 1, none⟩ = _ := Lib.cell_of_heap HGX.out 1
          have y2 : wc.cell? ⟨g, 2, none⟩ = _ := Lib.cell_of_heap HGX.out 2
          have yf : ∀ k, wc.frozen? ⟨g, k, none⟩ = false := fun k => Lib.frozen_of_heap HGX.out k
          have HBX4 := Lib.hid (three_put HGX.out (.int .u64 s) (.int .u64 ((i : Int) + 1)) (.slice aw (i + 1) cw))
          have HOW4 : Hid (OwnE 64 (((wc.setCell ⟨g, 0, none⟩ (.int .u64 s)).setCell ⟨g, 1, none⟩ (.int .u64 ((i : Int) + 1))).setCell ⟨g, 2, none⟩ (.slice aw (i + 1) cw)) wr.heap.size (.slice aw (i + 1) cw) (sld s L (i + 1))) := Lib.hid (ownsRow_setCell_below (ownsRow_setCell_below (ownsRow_setCell_below how (a := ⟨g, 0, none⟩) hgw _) (a := ⟨g, 1, none⟩) hgw _) (a := ⟨g, 2, none⟩) hgw _)
          have HAL4 : Hid (OwnS (((wc.setCell ⟨g, 0, none⟩ (.int .u64 s)).setCell ⟨g, 1, none⟩ (.int .u64 ((i : Int) + 1))).setCell ⟨g, 2, none⟩ (.slice aw (i + 1) cw)) (g + 1) (.slice aa i ca) ((sld s L i).map (·.bytes))) := Lib.hid (ownsRow_setCell_below (ownsRow_setCell_below (ownsRow_setCell_below (own_go HI2.all hbw) (a := ⟨g, 0, none⟩) (Nat.lt_succ_self g) _) (a := ⟨g, 1, none⟩) (Nat.lt_succ_self g) _) (a := ⟨g, 2, none⟩) (Nat.lt_succ_self g) _)
          have HB4 := Lib.hid (Below.setCell (Below.setCell (Below.setCell (HI2.bel.trans (hbw.mono HI2.bel.size)) (p := ⟨g, 0, none⟩) HI2.low (.int .u64 s)) (p := ⟨g, 1, none⟩) HI2.low (.int .u64 ((i : Int) + 1))) (p := ⟨g, 2, none⟩) HI2.low (.slice aw (i + 1) cw))
          have HAA : Hid (∀ q, (Value.slice aa i ca).ownBlock = some q → q < wr.heap.size) := Lib.hid (fun q hq => (ownS_lt HI2.all hq).2)
          have HUQ := Lib.hid HI2.uniq
          have hlow := HI2.low
          have hisz := HI2.sz
          have HSZ : Hid (wr.heap.size ≤ (((wc.setCell ⟨g, 0, none⟩ (.int .u64 s)).setCell ⟨g, 1, none⟩ (.int .u64 ((i : Int) + 1))).setCell ⟨g, 2, none⟩ (.slice aw (i + 1) cw)).heap.size) := Lib.hid (by have := hbw.size; simpa using this)
          clear hbw how HGX HI2 HI HBOX
          go_wp2_with fail
          generalize ((wc.setCell ⟨g, 0, none⟩ (.int .u64 s)).setCell ⟨g, 1, none⟩ (.int .u64 ((i : Int) + 1))).setCell ⟨g, 2, none⟩ (.slice aw (i + 1) cw) = w4 at *
          clear x0 x1 x2 y0 y1 y2 yf hbx
          obtain ⟨-, hic, hac⟩ := HAL4.out.cells
          have HAC := Lib.hid hac
          clear hac
          go_loop [12] (fun kv => ∃ k : Nat, k ≤ i ∧ kv = .int .i64 (k : Nat) ∧ ∀ j, j < k → (sldE s L j).bytes ≠ SS) (fun kv => i - (intOf kv).toNat)
          case atStart => exact ⟨0, Nat.zero_le _, rfl, fun j hj => by omega⟩
          case round =>
            obtain ⟨k, hk, rfl, hne⟩ := hrel
            have HNE := Lib.hid hne
            clear hne
            have hk0 : (0 : Int) ≤ (k : Int) := by omega
            by_cases hki : (k : Int) < (i : Int)
            · have hki2 : k < i := by omega
              obtain ⟨ga, rfl, hga1, hga2, hca⟩ := HAC.out k hki2
              rw [map_getD s L i k hki2] at hca
              obtain ⟨y, hy⟩ : ∃ z, (sldE s L k).bytes = z := ⟨_, rfl⟩
              rw [hy] at hca
              have HY := Lib.hid hy
              clear hy hga1 hga2
              by_cases hyS : y = SS
              · have ht := toList_eq' hyS
                clear hyS
                go_wp2_with fail
                go_ret
                exact ⟨rfl, HB4.out⟩
              · have ht := toList_ne hyS
                have HYN := Lib.hid hyS
                clear hyS
                go_wp2_with fail
                go_round
                case rel =>
                  refine ⟨k + 1, by omega, by go_num, fun j hj => ?_⟩
                  by_cases hjk : j < k
                  · exact HNE.out j hjk
                  · obtain rfl : j = k := by omega
                    rw [HY.out]; exact HYN.out
                case measure => simp [intOf]; omega
            · have hki2 : i = k := by omega
              subst hki2
              have hlm : ((sld s L i).map (·.bytes)).length = i := by simp [sld_len]
              obtain ⟨v5, w5, hrun, ho5, hb5, hk5⟩ := push_S w4 (g + 1) (.slice aa i ca) ((sld s L i).map (·.bytes)) SS 52 HAL4.out (by omega) (by have := HSZ.out; omega)
              obtain ⟨va, vc, rfl⟩ := ho5.form
              have hl5 : ((sld s L i).map (·.bytes) ++ [SS]).length = i + 1 := by simp [sld_len]
              have hmap : (sld s L i).map (·.bytes) ++ [SS] = (sld s L (i + 1)).map (·.bytes) := by rw [sld_succ, List.map_append, ← HSB.out]; rfl
              rw [hl5] at hrun ho5
              rw [hmap] at ho5
              have HRUN := Lib.hid hrun
              have HAL5 := Lib.hid ho5
              have HOW5 : Hid (RowE w5 (.slice aw (i + 1) cw) (sld s L (i + 1))) := Lib.hid (OwnE.row (own_block HOW4.out (fun q hq => by
                have h1 := own_lt HOW4.out hq
                exact hk5 q h1.2 (fun h2 => by have := HAA.out q h2; omega))))
              have HBX5 := Lib.hid ((hb5.block g (Nat.lt_succ_self g)).trans HBX4.out)
              have HB5 := Lib.hid (HB4.out.trans (hb5.mono (by omega)))
              have hg5 : g + 1 < w5.heap.size := by have := hb5.size; have := HSZ.out; omega
              have HL4 : Hid (∀ W, Below w5.heap.size w5 W → W.cell? ⟨g, 0, none⟩ = some (.int .u64 s) ∧ W.cell? ⟨g, 1, none⟩ = some (.int .u64 ((i : Int) + 1)) ∧ W.cell? ⟨g, 2, none⟩ = some (.slice aw (i + 1) cw) ∧ W.cell? ⟨rb, off + i * 4, none⟩ = some (.int .i64 x.fr) ∧ W.cell? ⟨rb, off + i * 4 + 1, none⟩ = some (.int .u64 x.num) ∧ W.cell? ⟨rb, off + i * 4 + 2, none⟩ = some (.string x.bytes) ∧ W.cell? ⟨rb, off + i * 4 + 3, none⟩ = some (.string x.plain)) := Lib.hid (fun W hW => by
                have hh := (hW.block g (by omega)).trans HBX5.out
                have hd := HCC.out W (HB5.out.trans (hW.mono HB5.out.size))
                rw [HX.out] at hd
                exact ⟨Lib.cell_of_heap hh 0, Lib.cell_of_heap hh 1, Lib.cell_of_heap hh 2, hd⟩)
              have CO1 : Hid (∀ W, Below w5.heap.size w5 W → Calls Try.prog 23 #[.agg #[.int .u64 s, .int .u64 ((i : Int) + 1), .slice aw (i + 1) cw], .int .i64 x.fr, .string SS] W fun e w' => e = .returned (.tuple #[.int .u64 0, .string ⟨#[]⟩, .bool false]) ∧ Below W.heap.size W w') := Lib.hid (fun W hW => by
                have h := open_any s ((i : Int) + 1) (.slice aw (i + 1) cw) (sld s L (i + 1)) x.fr SS W (HOW5.out.go hW) (by rw [sld_len]; omega)
                have ho := opn_mine s L i SS HSB.out HNE.out
                rw [HX.out] at ho
                rwa [opn_none ho] at h)
              have CO2 : Hid (∀ W, Below w5.heap.size w5 W → Calls Try.prog 23 #[.agg #[.int .u64 s, .int .u64 ((i : Int) + 1), .slice aw (i + 1) cw], .int .i64 (IntKind.i64.wrap (x.fr + 1)), .string SS] W fun e w' => e = .returned (.tuple #[.int .u64 x.num, .string x.plain, .bool true]) ∧ Below W.heap.size W w') := Lib.hid (fun W hW => by
                have h := open_any s ((i : Int) + 1) (.slice aw (i + 1) cw) (sld s L (i + 1)) (IntKind.i64.wrap (x.fr + 1)) SS W (HOW5.out.go hW) (by rw [sld_len]; omega)
                have ho := opn_other s L i SS (IntKind.i64.wrap (x.fr + 1)) (by rw [HX.out]; exact wrap_next x.fr) HSB.out HNE.out
                rw [opn_some ho] at h
                have e1 : (sldE s L i).num = x.num := by unfold sldE; rw [HX.out]
                have e2 : (sldE s L i).plain = x.plain := by unfold sldE; rw [HX.out]
                rwa [e1, e2] at h)
              have HW5 : Hid (Below w5.heap.size w5 w5.drew) := Lib.hid (Below.refl w5.heap.size w5).drew
              have hpp : (x.plain.toList == x.plain.toList) = true := by simp
              clear hrun ho5 hk5 hb5 HAC hlm hl5 hmap
              go_wp2_with (at_builtin; refine Lib.wpList_append_run _ rfl _ _ _ _ rfl _ _ rfl rfl _ _ HRUN.out ?_)
              go_wp2_with fail
              refine wp_region_noPanic ?_
              refine wp_region_held_drew (S := fun W : World => Below w5.heap.size w5 W) (by kernel_rfl) ?_ (fun hHeld => ?_)
              · exact HW5.out
              refine wpAnyH_take (i := 0) (v := ?_) rfl (by kernel_rfl) (by kernel_rfl) (by kernel_rfl) (fun _ _ _ h => h) (Or.inl ⟨by rfl, ?_⟩) (by assumption) ?_
              rotate_left
              · (intro w hSw; (obtain ⟨c0, c1, c2, e0, e1, e2, e3⟩ := HL4.out w hSw; clear hSw); go_simp; (try with_reducible rfl))
              try simp only [Act.put, List.getElem_toArray, List.getElem_cons_zero, List.getElem_cons_succ, List.setIfInBounds_toArray, List.set_cons_zero, List.set_cons_succ]
              refine wpAnyH_take (i := 1) (v := ?_) rfl (by kernel_rfl) (by kernel_rfl) (by kernel_rfl) (fun _ _ _ h => h) (Or.inl ⟨by rfl, ?_⟩) (by assumption) ?_
              rotate_left
              · (intro w hSw; (obtain ⟨c0, c1, c2, e0, e1, e2, e3⟩ := HL4.out w hSw; clear hSw); go_simp; (try with_reducible rfl))
              try simp only [Act.put, List.getElem_toArray, List.getElem_cons_zero, List.getElem_cons_succ, List.setIfInBounds_toArray, List.set_cons_zero, List.set_cons_succ]
              refine wpAnyH_take (i := 2) (v := ?_) rfl (by kernel_rfl) (by kernel_rfl) (by kernel_rfl) (fun _ _ _ h => h) (Or.inl ⟨by rfl, ?_⟩) (by assumption) ?_
              rotate_left
              · (intro w hSw; (obtain ⟨c0, c1, c2, e0, e1, e2, e3⟩ := HL4.out w hSw; clear hSw); go_simp; (try with_reducible rfl))
              try simp only [Act.put, List.getElem_toArray, List.getElem_cons_zero, List.getElem_cons_succ, List.setIfInBounds_toArray, List.set_cons_zero, List.set_cons_succ]
              refine wpAnyH_take (i := 3) (v := ?_) rfl (by kernel_rfl) (by kernel_rfl) (by kernel_rfl) (fun _ _ _ h => h) (Or.inl ⟨by rfl, ?_⟩) (by assumption) ?_
              rotate_left
              · (intro w hSw; (obtain ⟨c0, c1, c2, e0, e1, e2, e3⟩ := HL4.out w hSw; clear hSw); go_simp; (try with_reducible rfl))
              try simp only [Act.put, List.getElem_toArray, List.getElem_cons_zero, List.getElem_cons_succ, List.setIfInBounds_toArray, List.set_cons_zero, List.set_cons_succ]
              refine wpAnyH_take (i := 4) (v := ?_) rfl (by kernel_rfl) (by kernel_rfl) (by kernel_rfl) (fun _ _ _ h => h) (Or.inl ⟨by rfl, ?_⟩) (by assumption) ?_
              rotate_left
              · (intro w hSw; (obtain ⟨c0, c1, c2, e0, e1, e2, e3⟩ := HL4.out w hSw; clear hSw); go_simp; (try with_reducible rfl))
              try simp only [Act.put, List.getElem_toArray, List.getElem_cons_zero, List.getElem_cons_succ, List.setIfInBounds_toArray, List.set_cons_zero, List.set_cons_succ]
              refine wpAnyH_take (i := 5) (v := ?_) rfl (by kernel_rfl) (by kernel_rfl) (by kernel_rfl) (fun _ _ _ h => h) (Or.inl ⟨by rfl, ?_⟩) (by assumption) ?_
              rotate_left
              · (intro w hSw; (obtain ⟨c0, c1, c2, e0, e1, e2, e3⟩ := HL4.out w hSw; clear hSw); go_simp; (try with_reducible rfl))
              try simp only [Act.put, List.getElem_toArray, List.getElem_cons_zero, List.getElem_cons_succ, List.setIfInBounds_toArray, List.set_cons_zero, List.set_cons_succ]
              refine wpAnyH_take (i := 6) (v := ?_) rfl (by kernel_rfl) (by kernel_rfl) (by kernel_rfl) (fun _ _ _ h => h) (Or.inl ⟨by rfl, ?_⟩) (by assumption) ?_
              rotate_left
              · (intro w hSw; (obtain ⟨c0, c1, c2, e0, e1, e2, e3⟩ := HL4.out w hSw; clear hSw); go_simp; (try with_reducible rfl))
              try simp only [Act.put, List.getElem_toArray, List.getElem_cons_zero, List.getElem_cons_succ, List.setIfInBounds_toArray, List.set_cons_zero, List.set_cons_succ]
              refine wpAnyH_ready (rs := [7]) (by kernel_rfl) (by simp) ?_
              refine AllReadyH.cons rfl (fun K hK => ?_) AllReadyH.nil
              rw [if_pos (by rfl)]
              go_simp
              with_reducible refine (CO1.out _ hHeld).mono ?_
              rintro e u6 ⟨rfl, hb⟩
              refine hK.out _ _ ?_ (fun hHeld => ?_)
              · exact hHeld.trans (hb.mono hHeld.size)
              clear hK K
              try simp only [Act.put, List.getElem_toArray, List.getElem_cons_zero, List.getElem_cons_succ, List.setIfInBounds_toArray, List.set_cons_zero, List.set_cons_succ]
              refine wpAnyH_take (i := 8) (v := ?_) rfl (by kernel_rfl) (by kernel_rfl) (by kernel_rfl) (fun _ _ _ h => h) (Or.inl ⟨by rfl, ?_⟩) (by assumption) ?_
              rotate_left
              · (intro w hSw; (obtain ⟨c0, c1, c2, e0, e1, e2, e3⟩ := HL4.out w hSw; clear hSw); go_simp; (try with_reducible rfl))
              try simp only [Act.put, List.getElem_toArray, List.getElem_cons_zero, List.getElem_cons_succ, List.setIfInBounds_toArray, List.set_cons_zero, List.set_cons_succ]
              refine wpAnyH_take (i := 9) (v := ?_) rfl (by kernel_rfl) (by kernel_rfl) (by kernel_rfl) (fun _ _ _ h => h) (Or.inl ⟨by rfl, ?_⟩) (by assumption) ?_
              rotate_left
              · (intro w hSw; (obtain ⟨c0, c1, c2, e0, e1, e2, e3⟩ := HL4.out w hSw; clear hSw); go_simp; (try with_reducible rfl))
              try simp only [Act.put, List.getElem_toArray, List.getElem_cons_zero, List.getElem_cons_succ, List.setIfInBounds_toArray, List.set_cons_zero, List.set_cons_succ]
              refine wpAnyH_take (i := 10) (v := ?_) rfl (by kernel_rfl) (by kernel_rfl) (by kernel_rfl) (fun _ _ _ h => h) (Or.inl ⟨by rfl, ?_⟩) (by assumption) ?_
              rotate_left
              · (intro w hSw; (obtain ⟨c0, c1, c2, e0, e1, e2, e3⟩ := HL4.out w hSw; clear hSw); go_simp; (try with_reducible rfl))
              try simp only [Act.put, List.getElem_toArray, List.getElem_cons_zero, List.getElem_cons_succ, List.setIfInBounds_toArray, List.set_cons_zero, List.set_cons_succ]
              refine wpAnyH_take (i := 11) (v := ?_) rfl (by kernel_rfl) (by kernel_rfl) (by kernel_rfl) (fun _ _ _ h => h) (Or.inl ⟨by rfl, ?_⟩) (by assumption) ?_
              rotate_left
              · (intro w hSw; (obtain ⟨c0, c1, c2, e0, e1, e2, e3⟩ := HL4.out w hSw; clear hSw); go_simp; (try with_reducible rfl))
              try simp only [Act.put, List.getElem_toArray, List.getElem_cons_zero, List.getElem_cons_succ, List.setIfInBounds_toArray, List.set_cons_zero, List.set_cons_succ]
              refine wpAnyH_take (i := 12) (v := ?_) rfl (by kernel_rfl) (by kernel_rfl) (by kernel_rfl) (fun _ _ _ h => h) (Or.inl ⟨by rfl, ?_⟩) (by assumption) ?_
              rotate_left
              · (intro w hSw; (obtain ⟨c0, c1, c2, e0, e1, e2, e3⟩ := HL4.out w hSw; clear hSw); go_simp; (try with_reducible rfl))
              try simp only [Act.put, List.getElem_toArray, List.getElem_cons_zero, List.getElem_cons_succ, List.setIfInBounds_toArray, List.set_cons_zero, List.set_cons_succ]
              refine wpAnyH_take (i := 13) (v := ?_) rfl (by kernel_rfl) (by kernel_rfl) (by kernel_rfl) (fun _ _ _ h => h) (Or.inl ⟨by rfl, ?_⟩) (by assumption) ?_
              rotate_left
              · (intro w hSw; (obtain ⟨c0, c1, c2, e0, e1, e2, e3⟩ := HL4.out w hSw; clear hSw); go_simp; (try with_reducible rfl))
              try simp only [Act.put, List.getElem_toArray, List.getElem_cons_zero, List.getElem_cons_succ, List.setIfInBounds_toArray, List.set_cons_zero, List.set_cons_succ]
              refine wpAnyH_take (i := 14) (v := ?_) rfl (by kernel_rfl) (by kernel_rfl) (by kernel_rfl) (fun _ _ _ h => h) (Or.inl ⟨by rfl, ?_⟩) (by assumption) ?_
              rotate_left
              · (intro w hSw; (obtain ⟨c0, c1, c2, e0, e1, e2, e3⟩ := HL4.out w hSw; clear hSw); go_simp; (try with_reducible rfl))
              try simp only [Act.put, List.getElem_toArray, List.getElem_cons_zero, List.getElem_cons_succ, List.setIfInBounds_toArray, List.set_cons_zero, List.set_cons_succ]
              refine wpAnyH_done (by kernel_rfl) (NoPanic.normal ?_) _
              have HB6 := Lib.hid hHeld
              clear hHeld
              go_wp2_with fail
              refine wp_region_noPanic ?_
              refine wp_region_held_drew (S := fun W : World => Below w5.heap.size w5 W) (by kernel_rfl) ?_ (fun hHeld => ?_)
              · exact HB6.out.drew
              refine wpAnyH_take (i := 0) (v := ?_) rfl (by kernel_rfl) (by kernel_rfl) (by kernel_rfl) (fun _ _ _ h => h) (Or.inl ⟨by rfl, ?_⟩) (by assumption) ?_
              rotate_left
              · (intro w hSw; (obtain ⟨c0, c1, c2, e0, e1, e2, e3⟩ := HL4.out w hSw; clear hSw); go_simp; (try with_reducible rfl))
              try simp only [Act.put, List.getElem_toArray, List.getElem_cons_zero, List.getElem_cons_succ, List.setIfInBounds_toArray, List.set_cons_zero, List.set_cons_succ]
              refine wpAnyH_take (i := 1) (v := ?_) rfl (by kernel_rfl) (by kernel_rfl) (by kernel_rfl) (fun _ _ _ h => h) (Or.inl ⟨by rfl, ?_⟩) (by assumption) ?_
              rotate_left
              · (intro w hSw; (obtain ⟨c0, c1, c2, e0, e1, e2, e3⟩ := HL4.out w hSw; clear hSw); go_simp; (try with_reducible rfl))
              try simp only [Act.put, List.getElem_toArray, List.getElem_cons_zero, List.getElem_cons_succ, List.setIfInBounds_toArray, List.set_cons_zero, List.set_cons_succ]
              refine wpAnyH_take (i := 2) (v := ?_) rfl (by kernel_rfl) (by kernel_rfl) (by kernel_rfl) (fun _ _ _ h => h) (Or.inl ⟨by rfl, ?_⟩) (by assumption) ?_
              rotate_left
              · (intro w hSw; (obtain ⟨c0, c1, c2, e0, e1, e2, e3⟩ := HL4.out w hSw; clear hSw); go_simp; (try with_reducible rfl))
              try simp only [Act.put, List.getElem_toArray, List.getElem_cons_zero, List.getElem_cons_succ, List.setIfInBounds_toArray, List.set_cons_zero, List.set_cons_succ]
              refine wpAnyH_take (i := 3) (v := ?_) rfl (by kernel_rfl) (by kernel_rfl) (by kernel_rfl) (fun _ _ _ h => h) (Or.inl ⟨by rfl, ?_⟩) (by assumption) ?_
              rotate_left
              · (intro w hSw; (obtain ⟨c0, c1, c2, e0, e1, e2, e3⟩ := HL4.out w hSw; clear hSw); go_simp; (try with_reducible rfl))
              try simp only [Act.put, List.getElem_toArray, List.getElem_cons_zero, List.getElem_cons_succ, List.setIfInBounds_toArray, List.set_cons_zero, List.set_cons_succ]
              refine wpAnyH_take (i := 4) (v := ?_) rfl (by kernel_rfl) (by kernel_rfl) (by kernel_rfl) (fun _ _ _ h => h) (Or.inl ⟨by rfl, ?_⟩) (by assumption) ?_
              rotate_left
              · (intro w hSw; (obtain ⟨c0, c1, c2, e0, e1, e2, e3⟩ := HL4.out w hSw; clear hSw); go_simp; (try with_reducible rfl))
              try simp only [Act.put, List.getElem_toArray, List.getElem_cons_zero, List.getElem_cons_succ, List.setIfInBounds_toArray, List.set_cons_zero, List.set_cons_succ]
              refine wpAnyH_take (i := 5) (v := ?_) rfl (by kernel_rfl) (by kernel_rfl) (by kernel_rfl) (fun _ _ _ h => h) (Or.inl ⟨by rfl, ?_⟩) (by assumption) ?_
              rotate_left
              · (intro w hSw; (obtain ⟨c0, c1, c2, e0, e1, e2, e3⟩ := HL4.out w hSw; clear hSw); go_simp; (try with_reducible rfl))
              try simp only [Act.put, List.getElem_toArray, List.getElem_cons_zero, List.getElem_cons_succ, List.setIfInBounds_toArray, List.set_cons_zero, List.set_cons_succ]
              refine wpAnyH_take (i := 6) (v := ?_) rfl (by kernel_rfl) (by kernel_rfl) (by kernel_rfl) (fun _ _ _ h => h) (Or.inl ⟨by rfl, ?_⟩) (by assumption) ?_
              rotate_left
              · (intro w hSw; (obtain ⟨c0, c1, c2, e0, e1, e2, e3⟩ := HL4.out w hSw; clear hSw); go_simp; (try with_reducible rfl))
              try simp only [Act.put, List.getElem_toArray, List.getElem_cons_zero, List.getElem_cons_succ, List.setIfInBounds_toArray, List.set_cons_zero, List.set_cons_succ]
              refine wpAnyH_take (i := 7) (v := ?_) rfl (by kernel_rfl) (by kernel_rfl) (by kernel_rfl) (fun _ _ _ h => h) (Or.inl ⟨by rfl, ?_⟩) (by assumption) ?_
              rotate_left
              · (intro w hSw; (obtain ⟨c0, c1, c2, e0, e1, e2, e3⟩ := HL4.out w hSw; clear hSw); go_simp; (try with_reducible rfl))
              try simp only [Act.put, List.getElem_toArray, List.getElem_cons_zero, List.getElem_cons_succ, List.setIfInBounds_toArray, List.set_cons_zero, List.set_cons_succ]
              refine wpAnyH_ready (rs := [8]) (by kernel_rfl) (by simp) ?_
              refine AllReadyH.cons rfl (fun K hK => ?_) AllReadyH.nil
              rw [if_pos (by rfl)]
              go_simp
              with_reducible refine (CO2.out _ hHeld).mono ?_
              rintro e u7 ⟨rfl, hb⟩
              refine hK.out _ _ ?_ (fun hHeld => ?_)
              · exact hHeld.trans (hb.mono hHeld.size)
              clear hK K
              try simp only [Act.put, List.getElem_toArray, List.getElem_cons_zero, List.getElem_cons_succ, List.setIfInBounds_toArray, List.set_cons_zero, List.set_cons_succ]
              refine wpAnyH_take (i := 9) (v := ?_) rfl (by kernel_rfl) (by kernel_rfl) (by kernel_rfl) (fun _ _ _ h => h) (Or.inl ⟨by rfl, ?_⟩) (by assumption) ?_
              rotate_left
              · (intro w hSw; (obtain ⟨c0, c1, c2, e0, e1, e2, e3⟩ := HL4.out w hSw; clear hSw); go_simp; (try with_reducible rfl))
              try simp only [Act.put, List.getElem_toArray, List.getElem_cons_zero, List.getElem_cons_succ, List.setIfInBounds_toArray, List.set_cons_zero, List.set_cons_succ]
              refine wpAnyH_take (i := 10) (v := ?_) rfl (by kernel_rfl) (by kernel_rfl) (by kernel_rfl) (fun _ _ _ h => h) (Or.inl ⟨by rfl, ?_⟩) (by assumption) ?_
              rotate_left
              · (intro w hSw; (obtain ⟨c0, c1, c2, e0, e1, e2, e3⟩ := HL4.out w hSw; clear hSw); go_simp; (try with_reducible rfl))
              try simp only [Act.put, List.getElem_toArray, List.getElem_cons_zero, List.getElem_cons_succ, List.setIfInBounds_toArray, List.set_cons_zero, List.set_cons_succ]
              refine wpAnyH_take (i := 11) (v := ?_) rfl (by kernel_rfl) (by kernel_rfl) (by kernel_rfl) (fun _ _ _ h => h) (Or.inl ⟨by rfl, ?_⟩) (by assumption) ?_
              rotate_left
              · (intro w hSw; (obtain ⟨c0, c1, c2, e0, e1, e2, e3⟩ := HL4.out w hSw; clear hSw); go_simp; (try with_reducible rfl))
              try simp only [Act.put, List.getElem_toArray, List.getElem_cons_zero, List.getElem_cons_succ, List.setIfInBounds_toArray, List.set_cons_zero, List.set_cons_succ]
              refine wpAnyH_take (i := 12) (v := ?_) rfl (by kernel_rfl) (by kernel_rfl) (by kernel_rfl) (fun _ _ _ h => h) (Or.inl ⟨by rfl, ?_⟩) (by assumption) ?_
              rotate_left
              · (intro w hSw; (obtain ⟨c0, c1, c2, e0, e1, e2, e3⟩ := HL4.out w hSw; clear hSw); go_simp; (try with_reducible rfl))
              try simp only [Act.put, List.getElem_toArray, List.getElem_cons_zero, List.getElem_cons_succ, List.setIfInBounds_toArray, List.set_cons_zero, List.set_cons_succ]
              refine wpAnyH_take (i := 13) (v := ?_) rfl (by kernel_rfl) (by kernel_rfl) (by kernel_rfl) (fun _ _ _ h => h) (Or.inl ⟨by rfl, ?_⟩) (by assumption) ?_
              rotate_left
              · (intro w hSw; (obtain ⟨c0, c1, c2, e0, e1, e2, e3⟩ := HL4.out w hSw; clear hSw); go_simp; (try with_reducible rfl))
              try simp only [Act.put, List.getElem_toArray, List.getElem_cons_zero, List.getElem_cons_succ, List.setIfInBounds_toArray, List.set_cons_zero, List.set_cons_succ]
              refine wpAnyH_take (i := 14) (v := ?_) rfl (by kernel_rfl) (by kernel_rfl) (by kernel_rfl) (fun _ _ _ h => h) (Or.inl ⟨by rfl, ?_⟩) (by assumption) ?_
              rotate_left
              · (intro w hSw; (obtain ⟨c0, c1, c2, e0, e1, e2, e3⟩ := HL4.out w hSw; clear hSw); go_simp; (try with_reducible rfl))
              try simp only [Act.put, List.getElem_toArray, List.getElem_cons_zero, List.getElem_cons_succ, List.setIfInBounds_toArray, List.set_cons_zero, List.set_cons_succ]
              refine wpAnyH_take (i := 15) (v := ?_) rfl (by kernel_rfl) (by kernel_rfl) (by kernel_rfl) (fun _ _ _ h => h) (Or.inl ⟨by rfl, ?_⟩) (by assumption) ?_
              rotate_left
              · (intro w hSw; (obtain ⟨c0, c1, c2, e0, e1, e2, e3⟩ := HL4.out w hSw; clear hSw); go_simp; (try with_reducible rfl))
              try simp only [Act.put, List.getElem_toArray, List.getElem_cons_zero, List.getElem_cons_succ, List.setIfInBounds_toArray, List.set_cons_zero, List.set_cons_succ]
              refine wpAnyH_done (by kernel_rfl) (NoPanic.normal ?_) _
              have HB7 := Lib.hid hHeld
              clear hHeld
              obtain ⟨c0, c1, c2, e0, e1, e2, e3⟩ := HL4.out u7 HB7.out
              have HREL : Hid (OwnI s L w0 g (i + 1) aw va cw vc u7) := Lib.hid {
                box := (HB7.out.block g (by omega)).trans HBX5.out
                row := HOW5.out.go HB7.out
                all := own_go HAL5.out HB7.out
                uniq := fun j k h1 h2 => by
                  by_cases hk : k < i
                  · exact HUQ.out j k h1 hk
                  · obtain rfl : k = i := by omega
                    rw [HSB.out]
                    exact HNE.out j h1
                bel := HB5.out.trans (HB7.out.mono HB5.out.size)
                low := hlow
                sz := Nat.lt_of_lt_of_le hg5 HB7.out.size }
              go_wp2_with fail
              go_roundw
              case rel => exact ⟨i + 1, aw, va, cw, vc, by omega, by go_num, rfl, HREL.out⟩
              case measure => simp [intOf]; omega
      · obtain rfl : i = n := by omega
        obtain ⟨-, hic, hac⟩ := hI.all.cells
        have HAC := Lib.hid hac
        have hgw : g < wr.heap.size := Nat.lt_of_succ_lt hI.sz
        have c0 : wr.cell? ⟨g, 0, none⟩ = _ := Lib.cell_of_heap hI.box 0
        have c1 : wr.cell? ⟨g, 1, none⟩ = _ := Lib.cell_of_heap hI.box 1
        have c2 : wr.cell? ⟨g, 2, none⟩ = _ := Lib.cell_of_heap hI.box 2
        have HROW := Lib.hid hI.row
        have HBL := Lib.hid hI.bel
        have HBOX := Lib.hid hI.box
        have CO : Hid ((∀ j, j < i → (sldE s L j).bytes ≠ other) → Calls Try.prog 23 #[.agg #[.int .u64 s, .int .u64 i, .slice ba i bc], .int .i64 0, .string other] wr fun e w' => e = .returned (.tuple #[.int .u64 0, .string ⟨#[]⟩, .bool false]) ∧ Below wr.heap.size wr w') := Lib.hid (fun hno => by
          have h := open_any s (i : Int) (.slice ba i bc) (sld s L i) 0 other wr HROW.out (by rw [sld_len]; omega)
          rwa [opn_none (opn_nobody s L i other 0 hno)] at h)
        clear hI hac HI HC HALL
        go_wp2_with fail
        go_loop [19] (fun kv => ∃ k : Nat, k ≤ i ∧ kv = .int .i64 (k : Nat) ∧ ∀ j, j < k → (sldE s L j).bytes ≠ other) (fun kv => i - (intOf kv).toNat)
        case atStart => exact ⟨0, Nat.zero_le _, rfl, fun j hj => by omega⟩
        case round =>
          obtain ⟨k, hk, rfl, hne⟩ := hrel
          have HNE := Lib.hid hne
          clear hne
          have hk0 : (0 : Int) ≤ (k : Int) := by omega
          by_cases hki : (k : Int) < (i : Int)
          · have hki2 : k < i := by omega
            obtain ⟨ga, rfl, hga1, hga2, hca⟩ := HAC.out k hki2
            rw [map_getD s L i k hki2] at hca
            obtain ⟨y, hy⟩ : ∃ z, (sldE s L k).bytes = z := ⟨_, rfl⟩
            rw [hy] at hca
            have HY := Lib.hid hy
            clear hy hga1 hga2
            by_cases hyS : y = other
            · have ht := toList_eq' hyS
              clear hyS
              go_wp2_with fail
              go_ret
              exact ⟨rfl, HBL.out⟩
            · have ht := toList_ne hyS
              have HYN := Lib.hid hyS
              clear hyS
              go_wp2_with fail
              go_round
              case rel =>
                refine ⟨k + 1, by omega, by go_num, fun j hj => ?_⟩
                by_cases hjk : j < k
                · exact HNE.out j hjk
                · obtain rfl : j = k := by omega
                  rw [HY.out]; exact HYN.out
              case measure => simp [intOf]; omega
          · have hki2 : i = k := by omega
            subst hki2
            have CO2 := Lib.hid (CO.out HNE.out)
            clear CO HAC
            go_wp2_with fail
            with_reducible refine (CO2.out).mono ?_
            rintro e w5 ⟨rfl, hb⟩
            have hbx := (hb.block g hgw).trans HBOX.out
            have d1 : w5.cell? ⟨g, 1, none⟩ = _ := Lib.cell_of_heap hbx 1
            have HB5 := Lib.hid (HBL.out.trans (hb.mono HBL.out.size))
            clear hb hbx
            go_wp2_with fail
            go_ret
            exact ⟨rfl, HB5.out⟩
  · have hOi : (300 : Int) < (lo : Int) := by omega
    clear hr hL hbd hn
    go_enter Try.func7, Try.ntmps7
    go_wp2_with fail
    with_reducible refine (CB.out).mono ?_
    rintro e w1 ⟨rfl, rfl⟩
    go_wp2_with fail
    with_reducible refine (shown_any _).mono ?_
    rintro e w1 ⟨rfl, hb⟩
    have HB1 := Lib.hid hb
    clear hb
    go_wp2_with fail
    go_ret
    exact ⟨rfl, HB1.out⟩
theorem law_own (seed : Int) (a : Option Addr) (len cap : Nat) (L : List Ent) (other : ByteArray) (w : World) (w0 : (Lit.int .u64 seed).wf = true) (hL : L.length = len) (hn : len ≤ maxLen) (hr : RowE w (.slice a len cap) L) (w2 : other.size ≤ maxLen) :
    Calls Try.prog 7 #[.int .u64 seed, .slice a len cap, .string other] w fun e w' => e = .returned (.bool true) ∧ Below w.heap.size w w' := by
  obtain ⟨s, rfl⟩ := nat_u64 w0
  exact own_law s a len cap L other w hL hn hr
end Go.Proofs.Ytffjnfoleofffaa.Id
