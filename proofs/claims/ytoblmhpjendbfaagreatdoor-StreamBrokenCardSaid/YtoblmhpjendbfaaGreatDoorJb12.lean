/- Layer 14: the walks of what is read, taken, ready · Layer 14: the walks of Ready, and of what is shown -/
import Derived.Test.YtoblmhpjendbfaaGreatDoorJb11
namespace Go.Proofs.YtoblmhpjendbfaaGreatDoor.Rg.Gt
set_option maxRecDepth 20000
open Go.RowKit Go.Shelf
set_option linter.unusedVariables false
set_option linter.unusedSimpArgs false

theorem rdB_size {T : ByteArray} {s : GS} (h : GsOk T s) : ((rdB T s).size : Int) = rdy s := by
  unfold rdB rdy
  rcases hl : s.l with _ | ⟨x, l⟩
  · rfl
  · have h1 := h.inns x (by rw [hl]; simp)
    simp only
    split
    · exact bt_size h1
    · rfl
theorem rdB_text {T : ByteArray} {s : GS} (h : GsOk T s) {m : Nat} (hm : (m : Int) ≤ rdy s) : (rdB T s).extract 0 m = T.extract s.rd.toNat (s.rd + (m : Int)).toNat := by
  have r0 := h.r0
  unfold rdB rdy at *
  rcases hl : s.l with _ | ⟨x, l⟩
  · rw [hl] at hm
    simp only at hm ⊢
    obtain rfl : m = 0 := by omega
    rw [Int.natCast_zero, Int.add_zero]
    apply ByteArray.ext
    simp
  · rw [hl] at hm
    simp only at hm ⊢
    have h1 := h.inns x (by rw [hl]; simp)
    by_cases hx : x.1 = s.rd
    · rw [if_pos hx] at hm ⊢
      rw [bt_cut h1 hm, hx, Nat.add_zero, show s.rd.toNat + m = (s.rd + (m : Int)).toNat by omega]
    · rw [if_neg hx] at hm ⊢
      obtain rfl : m = 0 := by omega
      rw [Int.natCast_zero, Int.add_zero]
      apply ByteArray.ext
      simp
theorem extract_zero (K : ByteArray) : K.extract 0 0 = ⟨#[]⟩ := by
  apply ByteArray.ext
  simp
set_option maxHeartbeats 2000000 in
theorem read_zero (T : ByteArray) (s : GS) (a : Option Addr) (cn c b : Nat) (n : Int) (w : World) (hg : Gb w b 160 s (.slice a cn c)) (hr : RowG w (.slice a cn c) T s.l) (hm : min (max n 0) ((rdB T s).size : Int) = 0) :
    Calls Tryz.prog 103 #[.pointer (some ⟨b, 0, none⟩), .int .i64 n] w fun e w' => e = .returned (.string ⟨#[]⟩) ∧ Below w.heap.size w w' := by
  obtain ⟨rd, l, fin, kn⟩ := s
  simp only at hr
  have CR := Lib.hid (ready_any T ⟨rd, l, fin, kn⟩ (.slice a cn c) w hr)
  simp only at CR
  obtain ⟨K, hK⟩ : ∃ K, rdB T ⟨rd, l, fin, kn⟩ = K := ⟨_, rfl⟩
  rw [hK] at CR hm
  have y0 := hg.c0
  have y1 := hg.c1
  have y2 := hg.c2
  have y3 := hg.c3
  simp only at y0 y2 y3
  have x0 := extract_zero K
  have hk0 : (0 : Int) ≤ (K.size : Int) := by omega
  clear hg hr hK
  go_enter Tryz.func103, Tryz.ntmps103
  go_wp2_with fail
  with_reducible refine CR.out.mono ?_
  rintro e w1 ⟨rfl, hb⟩
  have HB := Lib.hid hb
  clear hb
  go_wp2_with fail
  go_ret
  exact ⟨rfl, HB.out⟩
theorem isEmptyG {D : ByteArray} (h : 0 < D.size) : D.toList.isEmpty = false := by
  rw [ByteArray.toList_eq]
  cases hh : D.data.toList with
  | nil =>
    have h1 : D.size = D.data.toList.length := by rw [Array.length_toList]; rfl
    rw [hh, List.length_nil] at h1
    omega
  | cons => rfl
theorem isEmptyY {D : ByteArray} (h : D.size = 0) : D.toList.isEmpty = true := by
  rw [ByteArray.toList_eq]
  cases hh : D.data.toList with
  | nil => rfl
  | cons =>
    have h1 : D.size = D.data.toList.length := by rw [Array.length_toList]; rfl
    rw [hh, List.length_cons] at h1
    omega
theorem RowG.drop1 {W : World} {a : Option Addr} {n c : Nat} {T : ByteArray} {x : Ran} {l : List Ran} (h : RowG W (.slice a n c) T (x :: l)) : RowG W (.slice (if c = 1 then a else a.map (·.add 2)) (n - 1) (c - 1)) T l := by
  obtain ⟨a', c', e, hc, hrow⟩ := h
  cases e
  simp only [List.length_cons] at hc
  refine ⟨_, c - 1, by rw [List.length_cons]; rfl, by omega, fun hne => ?_⟩
  obtain ⟨b, off, rfl, hb, hcell⟩ := hrow (by simp)
  have := List.length_pos_iff.2 hne
  refine ⟨b, off + 2, by rw [if_neg (by omega), Option.map_some, Addr.add_lit], hb, fun i hi j hj => ?_⟩
  have h1 := hcell (i + 1) (by simp; omega) j hj
  rw [show off + ((i + 1) * 2 + j) = off + 2 + (i * 2 + j) by omega] at h1
  rw [h1]
  simp [List.getD]
theorem own_front {w : World} {B g n c : Nat} {T : ByteArray} {x : Ran} {l : List Ran} {y : Int} {R : ByteArray} (h : OwnG 137 w B (.slice (some ⟨g, 0, none⟩) n c) T (x :: l)) (hn : n = l.length + 1) (hR : bt T (y, x.2) = R) :
    OwnG 137 ((w.setCell ⟨g, 0, none⟩ (.int .u64 y)).setCell ⟨g, 1, none⟩ (.string R)) B (.slice (some ⟨g, 0, none⟩) n c) T ((y, x.2) :: l) := by
  have h0 : w.ownsRow B 137 2 (.slice (some ⟨g, 0, none⟩) n c) n (flatG T (x :: l)) := by rw [hn]; rw [hn] at h; exact h
  have h1 := owns_set (i := 0) h0 (by omega) (.int .u64 y)
  have h2 := owns_set (i := 1) h1 (by omega) (.string R)
  rw [← hR] at h2 ⊢
  unfold OwnG
  rw [show ((y, x.2) :: l).length = n by simp [hn]]
  exact h2
theorem frozenG {w : World} {Y : TypeId} {B g n c : Nat} {T : ByteArray} {l : List Ran} (h : OwnG Y w B (.slice (some ⟨g, 0, none⟩) n c) T l) (j : Nat) : w.frozen? ⟨g, j, none⟩ = false := by
  rcases h.2 with ⟨hv, _⟩ | ⟨g', cap', cur, he, hb, hg, hnc, _⟩
  · cases hv
  · cases he
    simp [World.frozen?, hg]
theorem frontG {w : World} {Y : TypeId} {B g n c : Nat} {T : ByteArray} {x : Ran} {l : List Ran} (h : OwnG Y w B (.slice (some ⟨g, 0, none⟩) n c) T (x :: l)) :
    w.cell? ⟨g, 0, none⟩ = some (.int .u64 x.1) ∧ w.cell? ⟨g, 1, none⟩ = some (.string (bt T x)) ∧ g < w.heap.size ∧ n = l.length + 1 ∧ n ≤ c := by
  rcases h.2 with ⟨hv, hz⟩ | ⟨g', cap', cur, he, hb, hg, hnc, _⟩
  · cases hv
  · cases he
    exact ⟨World.ownsRow.cellAt h 0 (by simp), World.ownsRow.cellAt h 1 (by simp; omega), (Array.getElem?_eq_some_iff.1 hg).1, by simp, hnc⟩
/-- Behind read: what of the front part is left. -/
def ReadTo (b g : Nat) (rd fin x1 : Int) (kn : Bool) (T : ByteArray) (l : List Ran) (m : Nat) (K : ByteArray) (w : World) (e : Ending) (w' : World) : Prop :=
  e = .returned (.string (K.extract 0 m)) ∧ ∃ a n c, Gb w' b 160 ⟨rd + (m : Int), if m = K.size then l else (rd + (m : Int), x1) :: l, fin, kn⟩ (.slice a n c) ∧ RowG w' (.slice a n c) T (if m = K.size then l else (rd + (m : Int), x1) :: l) ∧ (∀ q, Blk (.slice a n c) q → q = g) ∧ Only (fun q => q = b ∨ q = g) w w'
set_option maxHeartbeats 4000000 in
theorem read_some (T : ByteArray) (rd fin x1 : Int) (kn : Bool) (l : List Ran) (B g cn c b m : Nat) (K : ByteArray) (n : Int) (w : World)
    (hg : Gb w b 160 ⟨rd, (rd, x1) :: l, fin, kn⟩ (.slice (some ⟨g, 0, none⟩) cn c)) (ho : OwnG 137 w B (.slice (some ⟨g, 0, none⟩) cn c) T ((rd, x1) :: l))
    (hgb : g ≠ b) (hK : bt T (rd, x1) = K) (hKz : (K.size : Int) = x1 + 1 - rd) (r0 : 0 ≤ rd) (r1 : rd ≤ 4611686018427387903) (hm0 : 0 < m) (hmK : m ≤ K.size) (hK9 : (K.size : Int) ≤ 4611686018427387903) (hm : min (max n 0) (K.size : Int) = (m : Int)) :
    Calls Tryz.prog 103 #[.pointer (some ⟨b, 0, none⟩), .int .i64 n] w (ReadTo b g rd fin x1 kn T l m K w) := by
  obtain ⟨k0, k1, hlt, hcn, hcc⟩ := frontG ho
  simp only [hK] at k0 k1
  have CR := Lib.hid (ready_any T ⟨rd, (rd, x1) :: l, fin, kn⟩ (.slice (some ⟨g, 0, none⟩) cn c) w ho.row)
  simp only at CR
  rw [show rdB T ⟨rd, (rd, x1) :: l, fin, kn⟩ = K by unfold rdB; simp [hK]] at CR
  have y0 := hg.c0
  have y1 := hg.c1
  have y2 := hg.c2
  have y3 := hg.c3
  simp only at y0 y2 y3
  obtain ⟨D, hD⟩ : ∃ D, K.extract 0 m = D := ⟨_, rfl⟩
  have hDz : D.size = m := by rw [← hD, ByteArray.size_extract]; omega
  have hDn := isEmptyG (D := D) (by omega)
  obtain ⟨R, hR⟩ : ∃ R, K.extract m K.size = R := ⟨_, rfl⟩
  have hRz : R.size = K.size - m := by rw [← hR, ByteArray.size_extract]; omega
  have hRT : bt T (rd + (m : Int), x1) = R := by
    have e1 : rd.toNat + m = (rd + (m : Int)).toNat := by omega
    rw [← hR, ← hK]
    unfold bt
    simp only
    rw [ByteArray.extract_extract, e1, ByteArray.size_extract]
    by_cases hx : (x1 + 1).toNat ≤ T.size
    · rw [show min (rd.toNat + (min (x1 + 1).toNat T.size - rd.toNat)) (x1 + 1).toNat = (x1 + 1).toNat by omega]
    · exfalso
      have h1 : K.size = min (x1 + 1).toNat T.size - rd.toNat := by rw [← hK]; unfold bt; rw [ByteArray.size_extract]
      omega
  have v1 : IntKind.u64.wrap (m : Int) = (m : Int) := IntWalk.u64_in _ (by omega)
  have v2 : IntKind.u64.wrap (rd + (m : Int)) = rd + (m : Int) := IntWalk.u64_in _ (by omega)
  have HG := Lib.hid hg
  have HO := Lib.hid ho
  have HZZ := Lib.hid (And.intro hDz (And.intro hRz (And.intro hRT hK)))
  have HKK := Lib.hid hKz
  have hk0 : (0 : Int) ≤ (m : Int) := by omega
  have hk1 : (m : Int) ≤ (K.size : Int) := by omega
  have HCN := Lib.hid (And.intro hcn hcc)
  have hc0 : (0 : Int) < (cn : Int) := by omega
  have hc1 : (1 : Int) ≤ (cn : Int) := by omega
  have hcc1 : (cn : Int) ≤ (c : Int) := by omega
  unfold ReadTo
  rw [hD]
  clear hg ho hK hRT hKz hcn hcc
  go_enter Tryz.func103, Tryz.ntmps103
  go_wp2_with fail
  with_reducible refine CR.out.mono ?_
  rintro e w1 ⟨rfl, hb⟩
  have HG1 := Lib.hid (HG.out.go hb)
  have HB1 := Lib.hid hb
  have HO1 := Lib.hid (HO.out.go hb)
  have j0 := HG1.out.c0
  have j1 := HG1.out.c1
  have j2 := HG1.out.c2
  have j3 := HG1.out.c3
  have jf := HG1.out.fz
  simp only at j0 j2 j3
  have HG2 := Lib.hid (HG1.out.s0 (rd + (m : Int)))
  have HO2 := Lib.hid (HO1.out.only (only_atG b 0 w1 (.int .u64 (rd + (m : Int)))) (fun q hq h => hgb (by cases hq; exact h)))
  have HN2 : Hid (Only (fun q => q = b ∨ q = g) w (w1.setCell ⟨b, 0, none⟩ (.int .u64 (rd + (m : Int))))) := Lib.hid ((Only.of_all hb _).trans ((only_atG b 0 w1 _).mono (fun q h => .inl h)))
  clear hb y0 y1 y2 y3 k0 k1 CR
  go_wp2_with fail
  generalize w1.setCell ⟨b, 0, none⟩ (.int .u64 (rd + (m : Int))) = W2 at *
  clear j0 j1 j2 j3 jf
  have y0 := HG2.out.c0
  have y1 := HG2.out.c1
  have y2 := HG2.out.c2
  have y3 := HG2.out.c3
  have yf := HG2.out.fz
  simp only at y0 y2 y3
  obtain ⟨z0, z1, hl2, -⟩ := frontG HO2.out
  have zf := frozenG HO2.out
  rw [HZZ.out.2.2.2] at z1
  simp only at z0
  have hbg : b ≠ g := fun e => hgb e.symm
  have HO3 := Lib.hid ((own_front (y := rd + (m : Int)) (R := R) HO2.out HCN.out.1 HZZ.out.2.2.1).go (Below.refl _ _).drew)
  have HG3 : Hid (Gb (((W2.setCell ⟨g, 0, none⟩ (.int .u64 (rd + (m : Int)))).setCell ⟨g, 1, none⟩ (.string R)).drew) b 160 ⟨rd + (m : Int), (rd, x1) :: l, fin, kn⟩ (.slice (some ⟨g, 0, none⟩) cn c)) := Lib.hid (((HG2.out.other hbg _).other hbg _).go (Below.refl _ _).drew)
  have HN3 : Hid (Only (fun q => q = b ∨ q = g) w (((W2.setCell ⟨g, 0, none⟩ (.int .u64 (rd + (m : Int)))).setCell ⟨g, 1, none⟩ (.string R)).drew)) := Lib.hid (((HN2.out.trans ((only_atG g 0 _ _).mono (fun q h => .inr h))).trans ((only_atG g 1 _ _).mono (fun q h => .inr h))).trans (Only.drew _ _))
  have hl0 : (0 : Int) ≤ 1 := by omega
  simp only at HO3
  by_cases hall : m = K.size
  · have d1 := isEmptyY (D := R) (by omega)
    have HA := Lib.hid hall
    clear hall
    go_region
    all_goals
      generalize ((W2.setCell ⟨g, 0, none⟩ (.int .u64 (rd + (m : Int)))).setCell ⟨g, 1, none⟩ (.string R)).drew = W3 at *
      clear y0 y1 y2 y3 yf z0 z1 zf
      have y1 := HG3.out.c1
      have yf := HG3.out.fz
      have z1 := (frontG HO3.out).2.1
      rw [HZZ.out.2.2.1] at z1
      have hr := HO3.out.row.drop1
      by_cases hc : c = 1
      · rw [if_pos hc] at hr
        have hr1 : RowG W3 (.slice (some ⟨g, 0, none⟩) (cn - 1) 0) T l := by rw [hc] at hr; exact hr
        have HRF := Lib.hid (hr1.set (k := 1) (fun h => hgb h.2) (.slice (some ⟨g, 0, none⟩) (cn - 1) 0))
        have HGF := Lib.hid (HG3.out.s1 l (.slice (some ⟨g, 0, none⟩) (cn - 1) 0))
        have HNF := Lib.hid (HN3.out.trans ((only_atG b 1 W3 (.slice (some ⟨g, 0, none⟩) (cn - 1) 0)).mono (fun q h => .inl h)))
        clear hr hr1
        subst hc
        go_wp2_with fail
        go_ret
        refine ⟨rfl, some ⟨g, 0, none⟩, cn - 1, 0, ?_, ?_, fun q hq => hq.2.symm, HNF.out⟩
        · first | (rw [if_pos HA.out]; exact HGF.out) | (rw [← HA.out]; exact HGF.out)
        · first | (rw [if_pos HA.out]; exact HRF.out) | exact HRF.out
      · rw [if_neg hc] at hr
        have hr1 : RowG W3 (.slice (some ⟨g, 2, none⟩) (cn - 1) (c - 1)) T l := hr
        have HRF := Lib.hid (hr1.set (k := 1) (fun h => hgb h.2) (.slice (some ⟨g, 2, none⟩) (cn - 1) (c - 1)))
        have HGF := Lib.hid (HG3.out.s1 l (.slice (some ⟨g, 2, none⟩) (cn - 1) (c - 1)))
        have HNF := Lib.hid (HN3.out.trans ((only_atG b 1 W3 (.slice (some ⟨g, 2, none⟩) (cn - 1) (c - 1))).mono (fun q h => .inl h)))
        clear hr hr1
        have hc2 : ¬ (c : Int) = 1 := by omega
        have hc3 : ¬ (c : Int) - 1 = 0 := by omega
        go_wp2_with fail
        go_ret
        refine ⟨rfl, some ⟨g, 2, none⟩, cn - 1, c - 1, ?_, ?_, fun q hq => hq.2.symm, HNF.out⟩
        · first | (rw [if_pos HA.out]; exact HGF.out) | (rw [← HA.out]; exact HGF.out)
        · first | (rw [if_pos HA.out]; exact HRF.out) | exact HRF.out
  · have d1 := isEmptyG (D := R) (by omega)
    have HA := Lib.hid hall
    clear hall
    go_region
    all_goals
      generalize ((W2.setCell ⟨g, 0, none⟩ (.int .u64 (rd + (m : Int)))).setCell ⟨g, 1, none⟩ (.string R)).drew = W3 at *
      clear y0 y1 y2 y3 yf z0 z1 zf
      have y1 := HG3.out.c1
      have z1 := (frontG HO3.out).2.1
      rw [HZZ.out.2.2.1] at z1
      go_wp2_with fail
      go_ret
      refine ⟨rfl, some ⟨g, 0, none⟩, cn, c, ?_, ?_, fun q hq => hq.2.symm, HN3.out⟩
      · first | (rw [if_neg HA.out]; exact HG3.out.l _) | exact HG3.out.l _
      · first | (rw [if_neg HA.out]; exact HO3.out.row) | exact HO3.out.row
/-- Behind read: so many bytes were read. -/
def ReadS (b : Nat) (u : Value) (T : ByteArray) (s : GS) (m : Int) (w : World) (e : Ending) (w' : World) : Prop :=
  e = .returned (.string (T.extract s.rd.toNat (s.rd + m).toNat)) ∧ ∃ a n c, Gb w' b 160 (takeS s m) (.slice a n c) ∧ RowG w' (.slice a n c) T (takeS s m).l ∧ (∀ q, Blk (.slice a n c) q → u.ownBlock = some q) ∧ Only (fun q => q = b ∨ u.ownBlock = some q) w w'
theorem read_any (T : ByteArray) (s : GS) (u : Value) (B b : Nat) (n : Int) (w : World) (hok : GsOk T s) (hT : (T.size : Int) ≤ 4611686018427387903) (hL : s.l.length ≤ 900) (hg : Gb w b 160 s u) (ho : OwnG 137 w B u T s.l) (hub : u.ownBlock ≠ some b) :
    Calls Tryz.prog 103 #[.pointer (some ⟨b, 0, none⟩), .int .i64 n] w (ReadS b u T s (tk s n) w) := by
  have hz := rdB_size hok
  have hrr := rdy_range hok
  by_cases h0 : tk s n = 0
  · obtain ⟨a, c, rfl⟩ := ho.form
    refine (read_zero T s a _ c b n w hg ho.row (by rw [hz]; exact h0)).mono ?_
    rintro e w1 ⟨rfl, hb⟩
    rw [h0]
    refine ⟨?_, a, _, c, by rw [takeS_zero]; exact hg.go hb, by rw [takeS_zero]; exact ho.row.go hb, fun q hq => (ho.blk hq).1, Only.of_all hb _⟩
    congr 2
    apply ByteArray.ext
    simp
  · have hpos : 0 < rdy s := by unfold tk at h0; omega
    obtain ⟨rd, l0, fin, kn⟩ := s
    obtain ⟨x, l, rfl⟩ : ∃ x l, l0 = x :: l := by
      cases l0 with
      | nil => simp [rdy] at hpos
      | cons x l => exact ⟨x, l, rfl⟩
    obtain ⟨x0, x1⟩ := x
    have hx : x0 = rd := by
      apply Classical.byContradiction
      intro hx
      rw [rdy_no (s := ⟨rd, (x0, x1) :: l, fin, kn⟩) rfl hx] at hpos
      omega
    subst hx
    have hy := rdy_yes (s := ⟨x0, (x0, x1) :: l, fin, kn⟩) rfl rfl
    have hkn := hok.inns (x0, x1) (by simp)
    have hKz := bt_size hkn
    obtain ⟨p0, p1, p2⟩ := hkn
    have r1 := hok.r1
    simp only at p0 p1 p2 hy hKz r1 hg ho
    obtain ⟨g, c, rfl⟩ : ∃ g c, u = .slice (some ⟨g, 0, none⟩) ((x0, x1) :: l).length c := by
      rcases ho.2 with ⟨_, hn⟩ | ⟨g, cap3, cur, rfl, _⟩
      · simp at hn
      · exact ⟨g, cap3, rfl⟩
    obtain ⟨m, hm⟩ : ∃ m : Nat, tk ⟨x0, (x0, x1) :: l, fin, kn⟩ n = (m : Int) := ⟨(tk ⟨x0, (x0, x1) :: l, fin, kn⟩ n).toNat, by unfold tk; omega⟩
    have hmle : (m : Int) ≤ rdy ⟨x0, (x0, x1) :: l, fin, kn⟩ := by rw [← hm]; unfold tk; omega
    have hKe : rdB T ⟨x0, (x0, x1) :: l, fin, kn⟩ = bt T (x0, x1) := by unfold rdB; simp
    have htx := rdB_text hok hmle
    rw [hKe] at htx hz
    simp only at htx
    refine (read_some T x0 fin x1 kn l B g _ c b m (bt T (x0, x1)) n w hg ho (fun e => hub (by rw [e]; rfl)) rfl (by omega) p0 (by omega) (by omega) (by omega) (by omega) (by rw [hz]; exact hm)).mono ?_
    rintro e w1 ⟨rfl, a, k, c', q1, q2, q3, q4⟩
    have hd : (if m = (bt T (x0, x1)).size then l else (x0 + (m : Int), x1) :: l) = dropL ⟨x0, (x0, x1) :: l, fin, kn⟩ (m : Int) := by
      by_cases e : m = (bt T (x0, x1)).size
      · rw [if_pos e, dropL_all rfl (by omega) (by omega)]
      · rw [if_neg e, dropL_some rfl (by omega) (by omega)]
    rw [hd] at q1 q2
    rw [hm]
    exact ⟨by rw [htx], a, k, c', q1, q2, fun q hq => by rw [q3 q hq]; rfl, q4.mono (fun q h => h.imp id (fun e => by rw [e]; rfl))⟩
theorem results_take (tmps : Array Value) (g : Nat) (r f : Int) (v : Value) (k : Bool) (d : ByteArray) (e : Bool) (w : World) (hp : tmps.getD 4 undef = .pointer (some ⟨g, 0, none⟩)) (hu : tmps.getD 5 undef = .string d) (hv : tmps.getD 6 undef = .bool e) (hc : w.heap[g]? = some (.cells #[.int .u64 r, v, .int .u64 f, .bool k] 33 (0, 0))) :
    (results Tryz.f62 tmps).run Tryz.prog w = .ok (.tuple #[.agg #[.int .u64 r, v, .int .u64 f, .bool k], .string d, .bool e]) w := by
  have c0 : w.cell? ⟨g, 0, none⟩ = some (.int .u64 r) := Lib.cell_of_heap hc 0
  have c1 : w.cell? ⟨g, 1, none⟩ = some v := Lib.cell_of_heap hc 1
  have c2 : w.cell? ⟨g, 2, none⟩ = some (.int .u64 f) := Lib.cell_of_heap hc 2
  have c3 : w.cell? ⟨g, 3, none⟩ = some (.bool k) := Lib.cell_of_heap hc 3
  simp at hp hu hv
  simp only [results, Tryz.results62]
  simp [Sem.run_bind, Result.andThen, hp, hu, hv]
  go_simp
set_option maxHeartbeats 4000000 in
theorem take_any (T : ByteArray) (s : GS) (a : Option Addr) (cn c : Nat) (n : Int) (w : World) (hok : GsOk T s) (hT : (T.size : Int) ≤ 4611686018427387903) (hL : s.l.length ≤ 900) (hn : s.l.length = cn) (hr : RowG w (.slice a cn c) T s.l) :
    Calls Tryz.prog 62 #[.agg #[.int .u64 s.rd, .slice a cn c, .int .u64 s.fin, .bool s.kn], .int .i64 n] w fun e w' =>
      ∃ a' c', e = .returned (.tuple #[.agg #[.int .u64 (s.rd + tk s n), .slice a' (dropL s (tk s n)).length c', .int .u64 s.fin, .bool s.kn], .string (T.extract s.rd.toNat (s.rd + tk s n).toNat), .bool (s.kn && decide (s.fin = s.rd + tk s n))]) ∧
        RowG w' (.slice a' (dropL s (tk s n)).length c') T (dropL s (tk s n)) ∧ (∀ q, Blk (.slice a' (dropL s (tk s n)).length c') q → w.heap.size ≤ q) ∧ Below w.heap.size w w' := by
  obtain ⟨m, hm⟩ : ∃ m, tk s n = m := ⟨_, rfl⟩
  have hlen : (s.l.length : Int) ≤ 900 := by omega
  have CRD := Lib.hid (fun (u : Value) B b W hg ho hub => read_any T s u B b n W hok hT hL hg ho hub)
  have CEA := Lib.hid (fun (v : Value) W => endsAt_any (takeS s m) v (s.rd + m) W)
  rw [hm] at CRD ⊢
  have HTS : Hid (takeS s m = ⟨s.rd + m, dropL s m, s.fin, s.kn⟩) := Lib.hid rfl
  obtain ⟨L, hL⟩ : ∃ L, dropL s m = L := ⟨_, rfl⟩
  obtain ⟨D, hD⟩ : ∃ D, T.extract s.rd.toNat (s.rd + m).toNat = D := ⟨_, rfl⟩
  unfold ReadS at CRD
  unfold takeS at CRD CEA
  rw [hD] at CRD ⊢
  rw [hL] at CRD ⊢
  rw [hL] at CEA
  simp only at CRD CEA
  obtain ⟨rd, l, fin, kn⟩ := s
  simp only at hn hr hlen CRD CEA ⊢
  obtain ⟨rm, hrm⟩ : ∃ x, rd + m = x := ⟨_, rfl⟩
  rw [hrm] at CRD CEA ⊢
  have HB0 : Hid (Below w.heap.size w ((w.alloc (.cells #[.int .u64 rd, .slice a cn c, .int .u64 fin, .bool kn] 33)).alloc (.cells #[.int .u64 0, .slice none 0 0, .int .u64 0, .bool false] 33))) := Lib.hid (((Below.refl _ w).alloc (Nat.le_refl _) _).alloc (by simp) _)
  have HZ0 : Hid (Gb ((w.alloc (.cells #[.int .u64 rd, .slice a cn c, .int .u64 fin, .bool kn] 33)).alloc (.cells #[.int .u64 0, .slice none 0 0, .int .u64 0, .bool false] 33)) (w.heap.size + 1) 33 ⟨0, [], 0, false⟩ (.slice none 0 0)) := Lib.hid (by
    have h := gb_made (w.alloc (.cells #[.int .u64 rd, .slice a cn c, .int .u64 fin, .bool kn] 33)) 33 ⟨0, [], 0, false⟩ (.slice none 0 0)
    rwa [World.size_alloc] at h)
  have HR0 := Lib.hid (hr.go HB0.out)
  have CO := Lib.hid (fun W h => ofG_any T ⟨rd, l, fin, kn⟩ a cn c W hn (by omega) h)
  simp only at CO
  clear hr hok hT hlen hm HTS hL hD
  go_enter Tryz.func62, Tryz.ntmps62
  go_wp2_with fail
  refine (CO.out _ HR0.out).mono ?_
  rintro e w1 ⟨u, B, rfl, hB, hG, hO, hU, hb⟩
  obtain ⟨a1, c1, rfl⟩ := hO.form
  try simp only at hG
  try simp only at hO
  try simp only at hU
  rw [hn] at hG hO hU
  have HBB : Hid (w.heap.size + 1 < B ∧ B < w1.heap.size) := Lib.hid ⟨by simp at hB; omega, hG.lt⟩
  have HZ1 := Lib.hid (HZ0.out.go hb)
  have HB1 := Lib.hid (nextG HB0.out hb)
  have HOB : Hid (∀ q, (Value.slice a1 cn c1).ownBlock = some q → w.heap.size + 1 < q) := Lib.hid (fun q hq => by have := (hO.lt hq).1; simp at this; omega)
  have CRW := Lib.hid (CRD.out _ _ B w1 hG hO hU)
  clear hB hG hO hU hb HB0 HZ0 HR0 CO CRD
  go_wp2_with fail
  with_reducible refine CRW.out.mono ?_
  rintro e w2 ⟨rfl, a2, n2, c2, q1, q2, q3, q4⟩
  obtain rfl : n2 = L.length := by obtain ⟨_, _, e, _⟩ := q2; injection e
  obtain ⟨ln, hln⟩ : ∃ m, L.length = m := ⟨_, rfl⟩
  rw [hln] at q1 q2 q3
  have HLN := Lib.hid hln
  have HG2 := Lib.hid (q1.go (Below.refl _ _).drew)
  have HR2 := Lib.hid (q2.go (Below.refl _ _).drew)
  have hz2 : Gb w2 (w.heap.size + 1) 33 ⟨0, [], 0, false⟩ (.slice none 0 0) := q4.heap HZ1.out (fun h => by
    rcases h with h | h
    · have := HBB.out.1; omega
    · have := HOB.out _ h; omega)
  have HZ2 := Lib.hid (hz2.go (Below.refl _ _).drew)
  have HB2 : Hid (Below w.heap.size w w2.drew) := Lib.hid ((HB1.out.trans (q4.below HB1.out.size (fun q hq => by
    rcases hq with hq | hq
    · have := HBB.out.1; omega
    · have := HOB.out _ hq; omega))).drew)
  have HFR : Hid (∀ q, Blk (.slice a2 ln c2) q → w.heap.size ≤ q) := Lib.hid (fun q h => by have := HOB.out _ (q3 _ h); omega)
  have HBK : Hid (¬ Blk (.slice a2 ln c2) (w.heap.size + 1)) := Lib.hid (fun h => by have := HOB.out _ (q3 _ h); omega)
  clear q1 q2 q3 q4 hln hz2 CRW HZ1 HB1
  go_wp2_with fail
  refine wp_region_noPanic ?_
  refine wp_region_held_drew (S := fun W : World => Gb W B 160 ⟨rm, L, fin, kn⟩ (.slice a2 ln c2) ∧ Below w.heap.size w W) (by kernel_rfl) ?_ (fun hHeld => ?_)
  · exact ⟨HG2.out, HB2.out⟩
  refine wpAnyH_take (i := 0) (v := ?_) rfl (by kernel_rfl) (by kernel_rfl) (by kernel_rfl) (fun _ _ _ h => h) (Or.inl ⟨by rfl, ?_⟩) (by assumption) ?_
  rotate_left
  · (intro w hSw; (have c0 := hSw.1.c0; have c1 := hSw.1.c1; have c2 := hSw.1.c2; have c3 := hSw.1.c3; simp only at c0 c2 c3); go_simp; (try with_reducible rfl))
  try simp only [Act.put, List.getElem_toArray, List.getElem_cons_zero, List.getElem_cons_succ, List.setIfInBounds_toArray, List.set_cons_zero, List.set_cons_succ]
  refine wpAnyH_take (i := 1) (v := ?_) rfl (by kernel_rfl) (by kernel_rfl) (by kernel_rfl) (fun _ _ _ h => h) (Or.inl ⟨by rfl, ?_⟩) (by assumption) ?_
  rotate_left
  · (intro w hSw; (have c0 := hSw.1.c0; have c1 := hSw.1.c1; have c2 := hSw.1.c2; have c3 := hSw.1.c3; simp only at c0 c2 c3); go_simp; (try with_reducible rfl))
  try simp only [Act.put, List.getElem_toArray, List.getElem_cons_zero, List.getElem_cons_succ, List.setIfInBounds_toArray, List.set_cons_zero, List.set_cons_succ]
  refine wpAnyH_take (i := 2) (v := ?_) rfl (by kernel_rfl) (by kernel_rfl) (by kernel_rfl) (fun _ _ _ h => h) (Or.inl ⟨by rfl, ?_⟩) (by assumption) ?_
  rotate_left
  · (intro w hSw; (have c0 := hSw.1.c0; have c1 := hSw.1.c1; have c2 := hSw.1.c2; have c3 := hSw.1.c3; simp only at c0 c2 c3); go_simp; (try with_reducible rfl))
  try simp only [Act.put, List.getElem_toArray, List.getElem_cons_zero, List.getElem_cons_succ, List.setIfInBounds_toArray, List.set_cons_zero, List.set_cons_succ]
  refine wpAnyH_take (i := 3) (v := ?_) rfl (by kernel_rfl) (by kernel_rfl) (by kernel_rfl) (fun _ _ _ h => h) (Or.inl ⟨by rfl, ?_⟩) (by assumption) ?_
  rotate_left
  · (intro w hSw; (have c0 := hSw.1.c0; have c1 := hSw.1.c1; have c2 := hSw.1.c2; have c3 := hSw.1.c3; simp only at c0 c2 c3); go_simp; (try with_reducible rfl))
  try simp only [Act.put, List.getElem_toArray, List.getElem_cons_zero, List.getElem_cons_succ, List.setIfInBounds_toArray, List.set_cons_zero, List.set_cons_succ]
  refine wpAnyH_take (i := 4) (v := ?_) rfl (by kernel_rfl) (by kernel_rfl) (by kernel_rfl) (fun _ _ _ h => h) (Or.inl ⟨by rfl, ?_⟩) (by assumption) ?_
  rotate_left
  · (intro w hSw; (have c0 := hSw.1.c0; have c1 := hSw.1.c1; have c2 := hSw.1.c2; have c3 := hSw.1.c3; simp only at c0 c2 c3); go_simp; (try with_reducible rfl))
  try simp only [Act.put, List.getElem_toArray, List.getElem_cons_zero, List.getElem_cons_succ, List.setIfInBounds_toArray, List.set_cons_zero, List.set_cons_succ]
  refine wpAnyH_take (i := 5) (v := ?_) rfl (by kernel_rfl) (by kernel_rfl) (by kernel_rfl) (fun _ _ _ h => h) (Or.inl ⟨by rfl, ?_⟩) (by assumption) ?_
  rotate_left
  · (intro w hSw; (have c0 := hSw.1.c0; have c1 := hSw.1.c1; have c2 := hSw.1.c2; have c3 := hSw.1.c3; simp only at c0 c2 c3); go_simp; (try with_reducible rfl))
  try simp only [Act.put, List.getElem_toArray, List.getElem_cons_zero, List.getElem_cons_succ, List.setIfInBounds_toArray, List.set_cons_zero, List.set_cons_succ]
  refine wpAnyH_take (i := 6) (v := ?_) rfl (by kernel_rfl) (by kernel_rfl) (by kernel_rfl) (fun _ _ _ h => h) (Or.inl ⟨by rfl, ?_⟩) (by assumption) ?_
  rotate_left
  · (intro w hSw; (have c0 := hSw.1.c0; have c1 := hSw.1.c1; have c2 := hSw.1.c2; have c3 := hSw.1.c3; simp only at c0 c2 c3); go_simp; (try with_reducible rfl))
  try simp only [Act.put, List.getElem_toArray, List.getElem_cons_zero, List.getElem_cons_succ, List.setIfInBounds_toArray, List.set_cons_zero, List.set_cons_succ]
  refine wpAnyH_take (i := 7) (v := ?_) rfl (by kernel_rfl) (by kernel_rfl) (by kernel_rfl) (fun _ _ _ h => h) (Or.inl ⟨by rfl, ?_⟩) (by assumption) ?_
  rotate_left
  · (intro w hSw; (have c0 := hSw.1.c0; have c1 := hSw.1.c1; have c2 := hSw.1.c2; have c3 := hSw.1.c3; simp only at c0 c2 c3); go_simp; (try with_reducible rfl))
  try simp only [Act.put, List.getElem_toArray, List.getElem_cons_zero, List.getElem_cons_succ, List.setIfInBounds_toArray, List.set_cons_zero, List.set_cons_succ]
  refine wpAnyH_take (i := 8) (v := ?_) rfl (by kernel_rfl) (by kernel_rfl) (by kernel_rfl) (fun _ _ _ h => h) (Or.inl ⟨by rfl, ?_⟩) (by assumption) ?_
  rotate_left
  · (intro w hSw; (have c0 := hSw.1.c0; have c1 := hSw.1.c1; have c2 := hSw.1.c2; have c3 := hSw.1.c3; simp only at c0 c2 c3); go_simp; (try with_reducible rfl))
  try simp only [Act.put, List.getElem_toArray, List.getElem_cons_zero, List.getElem_cons_succ, List.setIfInBounds_toArray, List.set_cons_zero, List.set_cons_succ]
  refine wpAnyH_take (i := 9) (v := ?_) rfl (by kernel_rfl) (by kernel_rfl) (by kernel_rfl) (fun _ _ _ h => h) (Or.inl ⟨by rfl, ?_⟩) (by assumption) ?_
  rotate_left
  · (intro w hSw; (have c0 := hSw.1.c0; have c1 := hSw.1.c1; have c2 := hSw.1.c2; have c3 := hSw.1.c3; simp only at c0 c2 c3); go_simp; (try with_reducible rfl))
  try simp only [Act.put, List.getElem_toArray, List.getElem_cons_zero, List.getElem_cons_succ, List.setIfInBounds_toArray, List.set_cons_zero, List.set_cons_succ]
  refine wpAnyH_take (i := 10) (v := ?_) rfl (by kernel_rfl) (by kernel_rfl) (by kernel_rfl) (fun _ _ _ h => h) (Or.inl ⟨by rfl, ?_⟩) (by assumption) ?_
  rotate_left
  · (intro w hSw; (have c0 := hSw.1.c0; have c1 := hSw.1.c1; have c2 := hSw.1.c2; have c3 := hSw.1.c3; simp only at c0 c2 c3); go_simp; (try with_reducible rfl))
  try simp only [Act.put, List.getElem_toArray, List.getElem_cons_zero, List.getElem_cons_succ, List.setIfInBounds_toArray, List.set_cons_zero, List.set_cons_succ]
  refine wpAnyH_take (i := 11) (v := ?_) rfl (by kernel_rfl) (by kernel_rfl) (by kernel_rfl) (fun _ _ _ h => h) (Or.inl ⟨by rfl, ?_⟩) (by assumption) ?_
  rotate_left
  · (intro w hSw; (have c0 := hSw.1.c0; have c1 := hSw.1.c1; have c2 := hSw.1.c2; have c3 := hSw.1.c3; simp only at c0 c2 c3); go_simp; (try with_reducible rfl))
  try simp only [Act.put, List.getElem_toArray, List.getElem_cons_zero, List.getElem_cons_succ, List.setIfInBounds_toArray, List.set_cons_zero, List.set_cons_succ]
  refine wpAnyH_take (i := 12) (v := ?_) rfl (by kernel_rfl) (by kernel_rfl) (by kernel_rfl) (fun _ _ _ h => h) (Or.inl ⟨by rfl, ?_⟩) (by assumption) ?_
  rotate_left
  · (intro w hSw; (have c0 := hSw.1.c0; have c1 := hSw.1.c1; have c2 := hSw.1.c2; have c3 := hSw.1.c3; simp only at c0 c2 c3); go_simp; (try with_reducible rfl))
  try simp only [Act.put, List.getElem_toArray, List.getElem_cons_zero, List.getElem_cons_succ, List.setIfInBounds_toArray, List.set_cons_zero, List.set_cons_succ]
  refine wpAnyH_take (i := 13) (v := ?_) rfl (by kernel_rfl) (by kernel_rfl) (by kernel_rfl) (fun _ _ _ h => h) (Or.inl ⟨by rfl, ?_⟩) (by assumption) ?_
  rotate_left
  · (intro w hSw; (have c0 := hSw.1.c0; have c1 := hSw.1.c1; have c2 := hSw.1.c2; have c3 := hSw.1.c3; simp only at c0 c2 c3); go_simp; (try with_reducible rfl))
  try simp only [Act.put, List.getElem_toArray, List.getElem_cons_zero, List.getElem_cons_succ, List.setIfInBounds_toArray, List.set_cons_zero, List.set_cons_succ]
  refine wpAnyH_ready (rs := [14]) (by kernel_rfl) (by simp) ?_
  refine AllReadyH.cons rfl (fun K hK => ?_) AllReadyH.nil
  rw [if_pos (by rfl)]
  go_simp
  refine (CEA.out _ _).mono ?_
  rintro e w3 ⟨rfl, hb⟩
  have HG3 := Lib.hid (HG2.out.go hb)
  have HR3 := Lib.hid (HR2.out.go hb)
  have HZ3 := Lib.hid (HZ2.out.go hb)
  have HB3 := Lib.hid (nextG HB2.out hb)
  have z0 := HZ3.out.c0
  have z1 := HZ3.out.c1
  have z2 := HZ3.out.c2
  have z3 := HZ3.out.c3
  simp only at z0 z2 z3
  have zf := HZ3.out.fz
  have hZB : B ≠ w.heap.size + 1 := by have := HBB.out; omega
  clear hb
  refine hK.out _ _ ?_ (fun hHeld => ?_)
  · exact ⟨HG3.out, HB3.out⟩
  clear hK K
  try simp only [Act.put, List.getElem_toArray, List.getElem_cons_zero, List.getElem_cons_succ, List.setIfInBounds_toArray, List.set_cons_zero, List.set_cons_succ]
  refine wpAnyH_ready (rs := [15]) (by kernel_rfl) (by simp) ?_
  refine AllReadyH.cons rfl (fun K hK => ?_) AllReadyH.nil
  rw [if_pos (by rfl)]
  go_simp
  refine hK.out _ _ ?_ (fun hHeld => ?_)
  · exact ⟨(((HG3.out.other hZB _).other hZB _).other hZB _).other hZB _, below_put4 HB3.out (Nat.le_succ _) (.int .u64 rm) (.slice a2 ln c2) (.int .u64 fin) (.bool kn)⟩
  clear hK K
  try simp only [Act.put, List.getElem_toArray, List.getElem_cons_zero, List.getElem_cons_succ, List.setIfInBounds_toArray, List.set_cons_zero, List.set_cons_succ]
  refine wpAnyH_take (i := 16) (v := ?_) rfl (by kernel_rfl) (by kernel_rfl) (by kernel_rfl) (fun _ _ _ h => h) (Or.inl ⟨by rfl, ?_⟩) (by assumption) ?_
  rotate_left
  · (intro w hSw; (have c0 := hSw.1.c0; have c1 := hSw.1.c1; have c2 := hSw.1.c2; have c3 := hSw.1.c3; simp only at c0 c2 c3); go_simp; (try with_reducible rfl))
  try simp only [Act.put, List.getElem_toArray, List.getElem_cons_zero, List.getElem_cons_succ, List.setIfInBounds_toArray, List.set_cons_zero, List.set_cons_succ]
  refine wpAnyH_take (i := 17) (v := ?_) rfl (by kernel_rfl) (by kernel_rfl) (by kernel_rfl) (fun _ _ _ h => h) (Or.inl ⟨by rfl, ?_⟩) (by assumption) ?_
  rotate_left
  · (intro w hSw; (have c0 := hSw.1.c0; have c1 := hSw.1.c1; have c2 := hSw.1.c2; have c3 := hSw.1.c3; simp only at c0 c2 c3); go_simp; (try with_reducible rfl))
  try simp only [Act.put, List.getElem_toArray, List.getElem_cons_zero, List.getElem_cons_succ, List.setIfInBounds_toArray, List.set_cons_zero, List.set_cons_succ]
  refine wpAnyH_done (by kernel_rfl) (NoPanic.normal ?_) _
  have HF := Lib.hid (HZ3.out.put ⟨rm, L, fin, kn⟩ (.slice a2 ln c2))
  have HRF := Lib.hid (HR3.out.put4 HBK.out (.int .u64 rm) (.slice a2 ln c2) (.int .u64 fin) (.bool kn))
  go_wp2_with fail
  refine bodyPost_ret (results_take _ (w.heap.size + 1) rm fin (.slice a2 ln c2) kn D _ _ rfl rfl rfl HF.out) rfl ?_
  exact ⟨a2, c2, by rw [HLN.out], by rw [HLN.out]; exact HRF.out, by rw [HLN.out]; exact HFR.out, hHeld.2⟩

end Go.Proofs.YtoblmhpjendbfaaGreatDoor.Rg.Gt
namespace Go.Proofs.YtoblmhpjendbfaaGreatDoor.Rg.Gt
set_option maxRecDepth 20000
open Go.RowKit Go.Shelf
set_option linter.unusedVariables false
set_option linter.unusedSimpArgs false

set_option maxHeartbeats 1000000 in
theorem Ready_any (T : ByteArray) (s : GS) (a : Option Addr) (cn c : Nat) (w : World) (hok : GsOk T s) (hT : (T.size : Int) ≤ 4611686018427387903) (hL : s.l.length ≤ 900) (hr : RowG w (.slice a cn c) T s.l) :
    Calls Tryz.prog 101 #[.agg #[.int .u64 s.rd, .slice a cn c, .int .u64 s.fin, .bool s.kn]] w fun e w' => e = .returned (.tuple #[.int .i64 (rdy s), .bool (s.kn && decide (s.fin = s.rd + rdy s))]) ∧ Below w.heap.size w w' := by
  have hz := rdB_size hok
  have hrr := rdy_range hok
  have r0 := hok.r0
  have CR := Lib.hid (fun W h => ready_any T s (.slice a cn c) W h)
  have CE := Lib.hid (fun W => endsAt_any s (.slice a cn c) (s.rd + rdy s) W)
  obtain ⟨rd, l, fin, kn⟩ := s
  simp only at CR CE hr hrr r0 ⊢
  obtain ⟨R, hR⟩ : ∃ R, rdy ⟨rd, l, fin, kn⟩ = R := ⟨_, rfl⟩
  obtain ⟨K, hK⟩ : ∃ K, rdB T ⟨rd, l, fin, kn⟩ = K := ⟨_, rfl⟩
  rw [hK] at CR hz
  rw [hR] at CE hz hrr ⊢
  have HB0 := Lib.hid ((Below.refl w.heap.size w).alloc (Nat.le_refl _) (.cells #[.int .u64 rd, .slice a cn c, .int .u64 fin, .bool kn] 33))
  have HG0 := Lib.hid (gb_made w 33 ⟨rd, l, fin, kn⟩ (.slice a cn c))
  have HR0 := Lib.hid (hr.go HB0.out)
  have v1 : IntKind.u64.wrap R = R := IntWalk.u64_in _ (by omega)
  have v2 : IntKind.u64.wrap (rd + R) = rd + R := IntWalk.u64_in _ (by omega)
  clear hr hok hK hR
  go_enter Tryz.func101, Tryz.ntmps101
  go_wp2_with fail
  with_reducible refine (CR.out _ HR0.out).mono ?_
  rintro e w1 ⟨rfl, hb⟩
  have HG1 := Lib.hid (HG0.out.go hb)
  have HB1 := Lib.hid (nextG HB0.out hb)
  have y0 := HG1.out.c0
  have y1 := HG1.out.c1
  have y2 := HG1.out.c2
  have y3 := HG1.out.c3
  simp only at y0 y2 y3
  clear hb
  go_wp2_with fail
  with_reducible refine (CE.out _).mono ?_
  rintro e w2 ⟨rfl, hb⟩
  have HB2 := Lib.hid (nextG HB1.out hb)
  clear hb y0 y1 y2 y3
  go_wp2_with fail
  go_ret2
  exact ⟨rfl, HB2.out⟩

end Go.Proofs.YtoblmhpjendbfaaGreatDoor.Rg.Gt
