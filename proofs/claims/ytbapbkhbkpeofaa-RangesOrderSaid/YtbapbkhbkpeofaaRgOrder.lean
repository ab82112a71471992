/- The walk of the law RangesOrder. -/
import Derived.Test.YtbapbkhbkpeofaaRgH
import Derived.Test.YtbapbkhbkpeofaaRgK
import Derived.OpenShut
import Derived.Test.YtbapbkhbkpeofaaRgT2
import Derived.Deep.RegionHeld3
namespace Go.Proofs.Ytbapbkhbkpeofaa
/-- What a caller's slice of integers is. -/
def IsRow (k : IntKind) (w : World) (a : Option Addr) (len cap : Nat) (zs : List Int) : Prop :=
  (a = none ∧ len = 0 ∧ cap = 0 ∧ zs = []) ∨ ∃ ad, a = some ad ∧ len ≤ cap ∧ cap ≤ maxLen ∧ zs.length = cap ∧ (∀ i, i < zs.length → w.cell? (ad.add i) = some (.int k (zs.getD i 0))) ∧ ∀ n ∈ zs, (Lit.int k n).wf = true
end Go.Proofs.Ytbapbkhbkpeofaa
namespace Go.Proofs.Ytbapbkhbkpeofaa.Rg
open Go.RowKit Go.Shelf
set_option linter.unusedVariables false
set_option maxHeartbeats 2000000 in
theorem RangesOrder_no0 (va : Value) (la : List Ran) (ab : Option Addr) (nb cb : Nat) (w : World) (ma : la.length ≤ maxLen) (ra : Rd w va la) (ua : Nums la) (ga : lowB la = false) :
    Calls Try.prog 7 #[va, .slice ab nb cb] w fun e w' => e = .returned (.bool true) ∧ Below w.heap.size w w' := by
  have Ra := Lib.hid ra
  clear ra
  have HB := Lib.hid (Below.refl w.heap.size w)
  go_enter Try.func7, Try.ntmps7
  go_wp2_with fail
  refine (low_any _ la _ (by omega) Ra.out).mono ?_
  rintro e A1 ⟨rfl, bl⟩
  replace HB := Lib.hid (next HB.out bl)
  replace Ra := Lib.hid (Ra.out.go bl)
  clear bl
  rw [ga]
  go_wp2_with fail
  refine (shown_any _).mono ?_
  rintro e A2 ⟨rfl, bl⟩
  replace HB := Lib.hid (next HB.out bl)
  replace Ra := Lib.hid (Ra.out.go bl)
  clear bl
  go_wp2
  go_ret
  exact ⟨rfl, HB.out⟩
theorem below_drew {n : Nat} {w w' : World} (h : Below n w w') : Below n w w'.drew := below_drewN h 1
theorem ofF' (v : Value) (l : List Ran) (w : World) (hl : l.length ≤ 1000) (hg : ∀ x ∈ l, 0 ≤ x.1 ∧ x.2 < 9223372036854775808) (hrd : Rd w v l) :
    Calls Try.prog 12 #[v] w fun e w' => ∃ v l', e = .returned v ∧ Can l' ∧ (∀ n, mem l' n ↔ mem l n) ∧ l'.length ≤ l.length ∧ Rd w' v l' ∧ (∀ k, Blk v k → w.heap.size ≤ k) ∧ Below w.heap.size w w' := by
  obtain ⟨a, cap, rfl, _⟩ := id hrd
  exact of_fresh a l.length cap l hl hg w hrd
theorem cellsOf_setx : ∀ (l : List Ran) (i : Nat) (x : Ran), i < l.length → cellsOf (l.set i x) = ((cellsOf l).set (i * 2) (.int .u64 x.1)).set (i * 2 + 1) (.int .u64 x.2)
  | [], i, x, h => by simp at h
  | a :: l, 0, x, _ => rfl
  | a :: l, i + 1, x, h => by
    have ih := cellsOf_setx l i x (by simpa using h)
    show Value.int .u64 a.1 :: .int .u64 a.2 :: cellsOf (l.set i x) = _
    rw [ih, show (i + 1) * 2 = i * 2 + 1 + 1 by omega]
    rfl
theorem set_sub {l lm : List Ran} {k : Nat} {y : Ran} (h : ∀ x ∈ lm, x ∈ l) (hy : y ∈ l) : ∀ x ∈ lm.set k y, x ∈ l := fun x hx => (List.mem_or_eq_of_mem_set hx).elim (h x) (fun e => e ▸ hy)
theorem getD_mem {l : List Ran} {k : Nat} (h : k < l.length) : l.getD k (0, 0) ∈ l := by rw [getD_get h]; exact List.getElem_mem _
theorem Ow.go {A A' : World} {base : Nat} {e : TypeId} {v : Value} {l : List Ran} (h : Ow A base e v l) (hb : Below A.heap.size A A') : Ow A' base e v l := by
  refine ⟨h.1, ?_⟩
  rcases h.2 with h2 | ⟨g, cap, cur, rfl, hb', hgg, rest⟩
  · exact .inl h2
  · exact .inr ⟨g, cap, cur, rfl, hb', (hb.block g (Array.getElem?_eq_some_iff.1 hgg).1).trans hgg, rest⟩
def OrdRel (la : List Ran) (n : Nat) (W : World) (am : Option Addr) (cm : Nat) (iv : Value) (wr : World) : Prop :=
  ∃ (k : Nat) (lm : List Ran), k ≤ n ∧ iv = .int .i64 k ∧ lm.length = n ∧ Hid (∀ x ∈ lm, x ∈ la) ∧ Ow wr W.heap.size 25 (.slice am n cm) lm ∧ Below W.heap.size W wr
set_option maxHeartbeats 16000000 in
theorem order_core (va : Value) (la : List Ran) (ab : Option Addr) (nb cb : Nat) (w : World) (ma : la.length ≤ maxLen) (ra : Rd w va la) (ua : Nums la) (hnb : nb ≤ maxLen) (hby : ∀ i, i < nb → ∃ b o z, ab = some ⟨b, o, none⟩ ∧ 0 ≤ z ∧ z ≤ 255 ∧ w.cell? ⟨b, o + i, none⟩ = some (.int .u8 z)) (ga : lowB la = true) :
    Calls Try.prog 7 #[va, .slice ab nb cb] w fun e w' => e = .returned (.bool true) ∧ Below w.heap.size w w' := by
  obtain ⟨i0, hi0, hz0, hz1, hz2⟩ := info_parts infoR
  have hz1 := Lib.hid hz1; have hz2 := Lib.hid hz2; have hz0 := Lib.hid hz0; have hi0 := Lib.hid hi0
  have HBY := Lib.hid hby
  clear hby
  unfold maxLen at hnb
  have hga : la.length ≤ 40 ∧ ∀ x ∈ la, 0 ≤ x.1 ∧ x.2 < 9223372036854775808 := ⟨(lowB_of ga).1, fun x hx => ⟨(ua x hx).1.1, ((lowB_of ga).2 x hx).2⟩⟩
  have hla := hga.1
  have GA := Lib.hid hga.2
  have hua := Lib.hid ua
  clear hga ua
  have R0 := Lib.hid ra
  have Ra := Lib.hid ra
  clear ra
  have HB := Lib.hid (Below.refl w.heap.size w)
  go_enter Try.func7, Try.ntmps7
  go_wp2_with fail
  refine (low_any _ la _ (by omega) Ra.out).mono ?_
  rintro e A1 ⟨rfl, bl⟩
  replace HB := Lib.hid (next HB.out bl)
  replace Ra := Lib.hid (Ra.out.go bl)
  clear bl
  rw [ga]
  go_wp2_with fail
  refine (shown_any _).mono ?_
  rintro e A2 ⟨rfl, bl⟩
  replace HB := Lib.hid (next HB.out bl)
  replace Ra := Lib.hid (Ra.out.go bl)
  clear bl
  go_wp2_with (at_builtin; refine wpList_append_rd _ rfl _ _ 22 rfl A2.heap.size 25 i0 (.agg #[.int .u64 0, .int .u64 0]) Try.underlying22 hi0.out hz0.out hz1.out hz2.out rfl (.slice (some ⟨A2.heap.size, 0, none⟩) 0 0) rfl [] (ow_made A2 _) va rfl la (Ra.out.go (made _ _)) (by (try simp); omega) (by first | omega | simp) ?_)
  intro am nm cm B1 o g _
  have bl : Below A2.heap.size A2 B1 := (made _ _).grown g (by simp) (fun k hk => by have := (ow_made A2 25).lt hk; omega)
  have O1 : Hid (Ow B1 A2.heap.size 25 (.slice am nm cm) la) := Lib.hid o
  obtain rfl : nm = la.length := by obtain ⟨_, _, e⟩ := O1.out.form; cases e; rfl
  have BL := Lib.hid bl
  have hbase := HB.out.size
  obtain ⟨n, hn⟩ : ∃ n, la.length = n := ⟨_, rfl⟩
  rw [hn] at O1 hla ⊢
  have HN := Lib.hid hn
  clear o g bl Ra hn ma
  go_wp2_with fail
  go_loopw [6, 7] (fun iv _ wr => OrdRel la n A2 am cm iv wr) (fun iv _ _ => n - (intOf iv).toNat)
  case atStart => exact ⟨0, la, Nat.zero_le _, rfl, HN.out, Lib.hid (fun x hx => hx), O1.out, BL.out⟩
  case round =>
    obtain ⟨k, lm, hk, rfl, hlm, hsub, hown, hbl⟩ := hrel
    have hsz := hbl.size
    have HO := Lib.hid hown
    have HBL := Lib.hid hbl
    clear hown O1 BL
    by_cases hlt : k < n
    · have e1 : decide ((k : Int) < (n : Int)) = true := decide_eq_true (by omega)
      by_cases hlb : k < nb
      · have e2 : decide ((k : Int) < (nb : Int)) = true := decide_eq_true (by omega)
        obtain ⟨b, o, z, rfl, y0, y1, hc⟩ := HBY.out k hlb
        have hcw : wr.cell? ⟨b, o + k, none⟩ = some (.int .u8 z) := cell_below (HB.out.trans (HBL.out.mono hbase)) hc (World.block_lt_of_cell? w _ hc)
        obtain ⟨k2, hk2⟩ : ∃ k2 : Nat, z.tmod (n : Int) = (k2 : Int) := ⟨(z.tmod n).toNat, (Int.toNat_of_nonneg (Int.tmod_nonneg _ y0)).symm⟩
        have hk2n : k2 < n := by have := Int.tmod_lt_of_pos z (show (0 : Int) < n by omega); omega
        have hwz : IntKind.i64.wrap z = z := by rw [IntKind.wrap_i64]; omega
        have hn0 : ((n : Int) == 0) = false := by simp; omega
        have hO := HO.out
        rcases hO.2 with ⟨_, hn'⟩ | ⟨g, cap3, cur, e3, hgb, hgg, _, _⟩
        · rw [hlm] at hn'; omega
        cases e3
        have hx1 := World.ownsRow.cellAt hO (k * 2) (by rw [hlm]; omega)
        have hx2 := World.ownsRow.cellAt hO (k * 2 + 1) (by rw [hlm]; omega)
        have hy1 := World.ownsRow.cellAt hO (k2 * 2) (by rw [hlm]; omega)
        have hy2 := World.ownsRow.cellAt hO (k2 * 2 + 1) (by rw [hlm]; omega)
        rw [(cellsOf_get lm k (by omega)).1] at hx1
        rw [(cellsOf_get lm k (by omega)).2] at hx2
        rw [(cellsOf_get lm k2 (by omega)).1] at hy1
        rw [(cellsOf_get lm k2 (by omega)).2] at hy2
        have f1 : wr.frozen? ⟨g, k * 2, none⟩ = false := by simp [World.frozen?, hgg]
        have f2 : wr.frozen? ⟨g, k * 2 + 1, none⟩ = false := by simp [World.frozen?, hgg]
        have f3 : wr.frozen? ⟨g, k2 * 2, none⟩ = false := by simp [World.frozen?, hgg]
        have f4 : wr.frozen? ⟨g, k2 * 2 + 1, none⟩ = false := by simp [World.frozen?, hgg]
        have hmx : Hid (lm.getD k (0, 0) ∈ la) := Lib.hid (hsub.out _ (getD_mem (by omega)))
        have hmy : Hid (lm.getD k2 (0, 0) ∈ la) := Lib.hid (hsub.out _ (getD_mem (by omega)))
        generalize lm.getD k (0, 0) = x at *
        generalize lm.getD k2 (0, 0) = y at *
        obtain ⟨xa, xb⟩ := x
        obtain ⟨ya, yb⟩ := y
        simp only at hx1 hx2 hy1 hy2
        clear hO hgg hc hbl
        by_cases hkk : k2 = k
        · subst hkk
          go_wp2_with fail
          go_region
          all_goals go_wp2
          have t1 := owns_set HO.out (i := k2 * 2) (by omega) (.int .u64 ya)
          have t2 := owns_set t1 (i := k2 * 2 + 1) (by omega) (.int .u64 yb)
          have t3 := owns_set t2 (i := k2 * 2) (by omega) (.int .u64 ya)
          have t4 := owns_set t3 (i := k2 * 2 + 1) (by omega) (.int .u64 yb)
          rw [← cellsOf_setx lm k2 (ya, yb) (by omega), ← cellsOf_setx (lm.set k2 (ya, yb)) k2 (ya, yb) (by rw [List.length_set]; omega)] at t4
          refine ⟨⟨k2 + 1, (lm.set k2 (ya, yb)).set k2 (ya, yb), by omega, by go_num, by rw [List.length_set, List.length_set], Lib.hid (set_sub (set_sub hsub.out hmy.out) hmy.out), ?_, ?_⟩, by simp [intOf]; omega⟩
          · refine Ow.go ?_ (below_drew (Below.refl _ _))
            unfold Ow
            rw [List.length_set, List.length_set]
            exact t4
          · exact below_drew ((((HBL.out.setCell (p := ⟨g, _, none⟩) hgb _).setCell (p := ⟨g, _, none⟩) hgb _).setCell (p := ⟨g, _, none⟩) hgb _).setCell (p := ⟨g, _, none⟩) hgb _)
        · have n1 : ¬ k2 * 2 = k * 2 := by omega
          have n2 : ¬ k2 * 2 + 1 = k * 2 + 1 := by omega
          have n3 : ¬ k * 2 = k2 * 2 := by omega
          have n4 : ¬ k * 2 + 1 = k2 * 2 + 1 := by omega
          go_wp2_with fail
          go_region
          all_goals go_wp2
          have t1 := owns_set HO.out (i := k * 2) (by omega) (.int .u64 ya)
          have t2 := owns_set t1 (i := k * 2 + 1) (by omega) (.int .u64 yb)
          have t3 := owns_set t2 (i := k2 * 2) (by omega) (.int .u64 xa)
          have t4 := owns_set t3 (i := k2 * 2 + 1) (by omega) (.int .u64 xb)
          rw [← cellsOf_setx lm k (ya, yb) (by omega), ← cellsOf_setx (lm.set k (ya, yb)) k2 (xa, xb) (by rw [List.length_set]; omega)] at t4
          refine ⟨⟨k + 1, (lm.set k (ya, yb)).set k2 (xa, xb), by omega, by go_num, by rw [List.length_set, List.length_set], Lib.hid (set_sub (set_sub hsub.out hmy.out) hmx.out), ?_, ?_⟩, by simp [intOf]; omega⟩
          · refine Ow.go ?_ (below_drew (Below.refl _ _))
            unfold Ow
            rw [List.length_set, List.length_set]
            exact t4
          · exact below_drew ((((HBL.out.setCell (p := ⟨g, _, none⟩) hgb _).setCell (p := ⟨g, _, none⟩) hgb _).setCell (p := ⟨g, _, none⟩) hgb _).setCell (p := ⟨g, _, none⟩) hgb _)
      · have e1 : decide ((k : Int) < (n : Int)) = true := decide_eq_true (by omega)
        have e2 : decide ((k : Int) < (nb : Int)) = false := decide_eq_false (by omega)
        have hwr : w.heap.size ≤ wr.heap.size := by omega
        have HB2 := HB
        replace HB := Lib.hid (HB.out.trans (HBL.out.mono hbase))
        have Ra := Lib.hid (R0.out.below HB.out (Nat.le_refl _))
        have hfr : ∀ q, (Value.slice am n cm).ownBlock = some q → A2.heap.size ≤ q ∧ q < wr.heap.size := fun q hq => HO.out.lt hq
        have HFR := Lib.hid hfr
        clear hfr hbl
        go_wp2_with fail
        refine (ofF' _ la _ (by have := HN.out; omega) GA.out Ra.out).mono ?_
        rintro e A3 ⟨vs, ls, rfl, c, m, h, r, fr, bl⟩
        replace HB := Lib.hid (next HB.out bl)
        replace Ra := Lib.hid (Ra.out.go bl)
        replace HO := Lib.hid (HO.out.go bl)
        replace HBL := Lib.hid (HBL.out.trans (bl.mono HBL.out.size))
        have bz := bl.size
        clear bl
        have Cs := Lib.hid c
        have Ms := Lib.hid m
        have hs : ls.length ≤ 40 := by have := HN.out; omega
        have Rs := Lib.hid r
        have FS := Lib.hid fr
        clear c m h r fr
        go_wp2_with fail
        refine (its_fresh _ ls _ (by omega) Rs.out).mono ?_
        rintro e A4 ⟨vy1, rfl, r, fr, bl⟩
        replace HB := Lib.hid (next HB.out bl)
        replace Ra := Lib.hid (Ra.out.go bl)
        replace Rs := Lib.hid (Rs.out.go bl)
        replace HO := Lib.hid (HO.out.go bl)
        replace HBL := Lib.hid (HBL.out.trans (bl.mono HBL.out.size))
        have bz := bl.size
        clear bl
        have Ry1 := Lib.hid r
        have FY := Lib.hid fr
        clear r fr
        have hnl := HN.out
        have ho0 := HO.out
        have BL0 := HBL.out.size
        go_wp2_with (at_builtin; refine wpList_append_rd _ rfl _ _ 22 rfl A2.heap.size 25 i0 (.agg #[.int .u64 0, .int .u64 0]) Try.underlying22 hi0.out hz0.out hz1.out hz2.out rfl (.slice am n cm) rfl lm HO.out va rfl la Ra.out (by omega) (by omega) ?_)
        intro a3 n3 c3 B3 o g3 _
        replace HBL := Lib.hid (HBL.out.grown g3 HBL.out.size (fun q hq => (HFR.out q hq).1))
        replace HB := Lib.hid (HB2.out.trans (HBL.out.mono hbase))
        replace Ra := Lib.hid (R0.out.below HB.out (Nat.le_refl _))
        replace Rs := Lib.hid (Rs.out.keep (fun q hq => g3.block q (Rs.out.blk hq) (fun e => by have h1 := FS.out q hq; have h2 := (HFR.out q e.symm).2; omega)))
        replace Ry1 := Lib.hid (Ry1.out.keep (fun q hq => g3.block q (Ry1.out.blk hq) (fun e => by have h1 := FY.out q hq; have h2 := (HFR.out q e.symm).2; omega)))
        have Rq : Hid (Rd B3 (.slice a3 n3 c3) (lm ++ la)) := Lib.hid o.rd
        clear o g3 HO HBL ho0
        have hql : (lm ++ la).length ≤ 100 := by rw [List.length_append]; omega
        obtain ⟨lq, hlq⟩ : ∃ l, lm ++ la = l := ⟨_, rfl⟩
        have MQ : Hid (∀ n, mem lq n ↔ mem la n) := Lib.hid (fun n => by rw [← hlq, mem_append]; exact ⟨fun h => h.elim (fun ⟨x, hx, hn⟩ => ⟨x, hsub.out x hx, hn⟩) id, .inr⟩)
        have GQ : Hid (∀ x ∈ lq, 0 ≤ x.1 ∧ x.2 < 9223372036854775808) := Lib.hid (fun x hx => by rw [← hlq] at hx; exact (List.mem_append.1 hx).elim (fun h => GA.out x (hsub.out x h)) (GA.out x))
        rw [hlq] at Rq hql
        clear hlq
        go_wp2_with fail
        refine (of' _ lq _ (by omega) GQ.out Rq.out).mono ?_
        rintro e A5 ⟨vz, lz, rfl, c, m, h, r, bl⟩
        replace HB := Lib.hid (next HB.out bl)
        replace Ra := Lib.hid (Ra.out.go bl)
        replace Rs := Lib.hid (Rs.out.go bl)
        replace Ry1 := Lib.hid (Ry1.out.go bl)
        replace Rq := Lib.hid (Rq.out.go bl)
        have bz := bl.size
        clear bl
        have Cz := Lib.hid c
        have Mz := Lib.hid m
        have Nz := Lib.hid h
        have Rz := Lib.hid r
        clear c m h r
        clear Rq
        have hz := Nz.out
        go_wp2_with fail
        refine (its_any _ lz _ (by omega) Rz.out).mono ?_
        rintro e A6 ⟨vy2, rfl, r, bl⟩
        replace HB := Lib.hid (next HB.out bl)
        replace Ra := Lib.hid (Ra.out.go bl)
        replace Rs := Lib.hid (Rs.out.go bl)
        replace Ry1 := Lib.hid (Ry1.out.go bl)
        replace Rz := Lib.hid (Rz.out.go bl)
        have bz := bl.size
        clear bl
        have Ry2 := Lib.hid r
        clear r
        go_wp2_with fail
        refine (same' _ _ ls lz _ (by omega) Ry1.out Ry2.out Cs.out Cz.out (fun n => by rw [Ms.out, Mz.out, MQ.out])).mono ?_
        rintro e A7 ⟨rfl, bl⟩
        replace HB := Lib.hid (next HB.out bl)
        replace Ra := Lib.hid (Ra.out.go bl)
        replace Rs := Lib.hid (Rs.out.go bl)
        replace Ry1 := Lib.hid (Ry1.out.go bl)
        replace Rz := Lib.hid (Rz.out.go bl)
        replace Ry2 := Lib.hid (Ry2.out.go bl)
        have bz := bl.size
        clear bl
        clear Ry1
        clear Ry2
        clear Rz
        go_wp2_with fail
        refine (its_any _ ls _ (by omega) Rs.out).mono ?_
        rintro e A8 ⟨vy3, rfl, r, bl⟩
        replace HB := Lib.hid (next HB.out bl)
        replace Ra := Lib.hid (Ra.out.go bl)
        replace Rs := Lib.hid (Rs.out.go bl)
        have bz := bl.size
        clear bl
        have Ry3 := Lib.hid r
        clear r
        go_wp2_with fail
        refine (of' _ ls _ (by omega) (fun x hx => ⟨(Cs.out.good x hx).1, (Cs.out.good x hx).2.2⟩) Rs.out).mono ?_
        rintro e A9 ⟨vx, lx, rfl, c, m, h, r, bl⟩
        replace HB := Lib.hid (next HB.out bl)
        replace Ra := Lib.hid (Ra.out.go bl)
        replace Rs := Lib.hid (Rs.out.go bl)
        replace Ry3 := Lib.hid (Ry3.out.go bl)
        have bz := bl.size
        clear bl
        have Cx := Lib.hid c
        have Mx := Lib.hid m
        have Nx := Lib.hid h
        have Rx := Lib.hid r
        clear c m h r
        have hx := Nx.out
        go_wp2_with fail
        refine (its_any _ lx _ (by omega) Rx.out).mono ?_
        rintro e A10 ⟨vy4, rfl, r, bl⟩
        replace HB := Lib.hid (next HB.out bl)
        replace Ra := Lib.hid (Ra.out.go bl)
        replace Rs := Lib.hid (Rs.out.go bl)
        replace Ry3 := Lib.hid (Ry3.out.go bl)
        replace Rx := Lib.hid (Rx.out.go bl)
        have bz := bl.size
        clear bl
        have Ry4 := Lib.hid r
        clear r
        go_wp2_with fail
        refine (same' _ _ ls lx _ (by omega) Ry3.out Ry4.out Cs.out Cx.out (fun n => by rw [Mx.out])).mono ?_
        rintro e A11 ⟨rfl, bl⟩
        replace HB := Lib.hid (next HB.out bl)
        replace Ra := Lib.hid (Ra.out.go bl)
        replace Rs := Lib.hid (Rs.out.go bl)
        replace Ry3 := Lib.hid (Ry3.out.go bl)
        replace Rx := Lib.hid (Rx.out.go bl)
        replace Ry4 := Lib.hid (Ry4.out.go bl)
        have bz := bl.size
        clear bl
        go_wp2
        go_ret
        exact ⟨rfl, HB.out⟩
    · have e1 : decide ((k : Int) < (n : Int)) = false := decide_eq_false (by omega)
      have hwr : w.heap.size ≤ wr.heap.size := by omega
      have HB2 := HB
      replace HB := Lib.hid (HB.out.trans (HBL.out.mono hbase))
      have Ra := Lib.hid (R0.out.below HB.out (Nat.le_refl _))
      have hfr : ∀ q, (Value.slice am n cm).ownBlock = some q → A2.heap.size ≤ q ∧ q < wr.heap.size := fun q hq => HO.out.lt hq
      have HFR := Lib.hid hfr
      clear hfr hbl
      go_wp2_with fail
      refine (ofF' _ la _ (by have := HN.out; omega) GA.out Ra.out).mono ?_
      rintro e A3 ⟨vs, ls, rfl, c, m, h, r, fr, bl⟩
      replace HB := Lib.hid (next HB.out bl)
      replace Ra := Lib.hid (Ra.out.go bl)
      replace HO := Lib.hid (HO.out.go bl)
      replace HBL := Lib.hid (HBL.out.trans (bl.mono HBL.out.size))
      have bz := bl.size
      clear bl
      have Cs := Lib.hid c
      have Ms := Lib.hid m
      have hs : ls.length ≤ 40 := by have := HN.out; omega
      have Rs := Lib.hid r
      have FS := Lib.hid fr
      clear c m h r fr
      go_wp2_with fail
      refine (its_fresh _ ls _ (by omega) Rs.out).mono ?_
      rintro e A4 ⟨vy1, rfl, r, fr, bl⟩
      replace HB := Lib.hid (next HB.out bl)
      replace Ra := Lib.hid (Ra.out.go bl)
      replace Rs := Lib.hid (Rs.out.go bl)
      replace HO := Lib.hid (HO.out.go bl)
      replace HBL := Lib.hid (HBL.out.trans (bl.mono HBL.out.size))
      have bz := bl.size
      clear bl
      have Ry1 := Lib.hid r
      have FY := Lib.hid fr
      clear r fr
      have hnl := HN.out
      have ho0 := HO.out
      have BL0 := HBL.out.size
      go_wp2_with (at_builtin; refine wpList_append_rd _ rfl _ _ 22 rfl A2.heap.size 25 i0 (.agg #[.int .u64 0, .int .u64 0]) Try.underlying22 hi0.out hz0.out hz1.out hz2.out rfl (.slice am n cm) rfl lm HO.out va rfl la Ra.out (by omega) (by omega) ?_)
      intro a3 n3 c3 B3 o g3 _
      replace HBL := Lib.hid (HBL.out.grown g3 HBL.out.size (fun q hq => (HFR.out q hq).1))
      replace HB := Lib.hid (HB2.out.trans (HBL.out.mono hbase))
      replace Ra := Lib.hid (R0.out.below HB.out (Nat.le_refl _))
      replace Rs := Lib.hid (Rs.out.keep (fun q hq => g3.block q (Rs.out.blk hq) (fun e => by have h1 := FS.out q hq; have h2 := (HFR.out q e.symm).2; omega)))
      replace Ry1 := Lib.hid (Ry1.out.keep (fun q hq => g3.block q (Ry1.out.blk hq) (fun e => by have h1 := FY.out q hq; have h2 := (HFR.out q e.symm).2; omega)))
      have Rq : Hid (Rd B3 (.slice a3 n3 c3) (lm ++ la)) := Lib.hid o.rd
      clear o g3 HO HBL ho0
      have hql : (lm ++ la).length ≤ 100 := by rw [List.length_append]; omega
      obtain ⟨lq, hlq⟩ : ∃ l, lm ++ la = l := ⟨_, rfl⟩
      have MQ : Hid (∀ n, mem lq n ↔ mem la n) := Lib.hid (fun n => by rw [← hlq, mem_append]; exact ⟨fun h => h.elim (fun ⟨x, hx, hn⟩ => ⟨x, hsub.out x hx, hn⟩) id, .inr⟩)
      have GQ : Hid (∀ x ∈ lq, 0 ≤ x.1 ∧ x.2 < 9223372036854775808) := Lib.hid (fun x hx => by rw [← hlq] at hx; exact (List.mem_append.1 hx).elim (fun h => GA.out x (hsub.out x h)) (GA.out x))
      rw [hlq] at Rq hql
      clear hlq
      go_wp2_with fail
      refine (of' _ lq _ (by omega) GQ.out Rq.out).mono ?_
      rintro e A5 ⟨vz, lz, rfl, c, m, h, r, bl⟩
      replace HB := Lib.hid (next HB.out bl)
      replace Ra := Lib.hid (Ra.out.go bl)
      replace Rs := Lib.hid (Rs.out.go bl)
      replace Ry1 := Lib.hid (Ry1.out.go bl)
      replace Rq := Lib.hid (Rq.out.go bl)
      have bz := bl.size
      clear bl
      have Cz := Lib.hid c
      have Mz := Lib.hid m
      have Nz := Lib.hid h
      have Rz := Lib.hid r
      clear c m h r
      clear Rq
      have hz := Nz.out
      go_wp2_with fail
      refine (its_any _ lz _ (by omega) Rz.out).mono ?_
      rintro e A6 ⟨vy2, rfl, r, bl⟩
      replace HB := Lib.hid (next HB.out bl)
      replace Ra := Lib.hid (Ra.out.go bl)
      replace Rs := Lib.hid (Rs.out.go bl)
      replace Ry1 := Lib.hid (Ry1.out.go bl)
      replace Rz := Lib.hid (Rz.out.go bl)
      have bz := bl.size
      clear bl
      have Ry2 := Lib.hid r
      clear r
      go_wp2_with fail
      refine (same' _ _ ls lz _ (by omega) Ry1.out Ry2.out Cs.out Cz.out (fun n => by rw [Ms.out, Mz.out, MQ.out])).mono ?_
      rintro e A7 ⟨rfl, bl⟩
      replace HB := Lib.hid (next HB.out bl)
      replace Ra := Lib.hid (Ra.out.go bl)
      replace Rs := Lib.hid (Rs.out.go bl)
      replace Ry1 := Lib.hid (Ry1.out.go bl)
      replace Rz := Lib.hid (Rz.out.go bl)
      replace Ry2 := Lib.hid (Ry2.out.go bl)
      have bz := bl.size
      clear bl
      clear Ry1
      clear Ry2
      clear Rz
      go_wp2_with fail
      refine (its_any _ ls _ (by omega) Rs.out).mono ?_
      rintro e A8 ⟨vy3, rfl, r, bl⟩
      replace HB := Lib.hid (next HB.out bl)
      replace Ra := Lib.hid (Ra.out.go bl)
      replace Rs := Lib.hid (Rs.out.go bl)
      have bz := bl.size
      clear bl
      have Ry3 := Lib.hid r
      clear r
      go_wp2_with fail
      refine (of' _ ls _ (by omega) (fun x hx => ⟨(Cs.out.good x hx).1, (Cs.out.good x hx).2.2⟩) Rs.out).mono ?_
      rintro e A9 ⟨vx, lx, rfl, c, m, h, r, bl⟩
      replace HB := Lib.hid (next HB.out bl)
      replace Ra := Lib.hid (Ra.out.go bl)
      replace Rs := Lib.hid (Rs.out.go bl)
      replace Ry3 := Lib.hid (Ry3.out.go bl)
      have bz := bl.size
      clear bl
      have Cx := Lib.hid c
      have Mx := Lib.hid m
      have Nx := Lib.hid h
      have Rx := Lib.hid r
      clear c m h r
      have hx := Nx.out
      go_wp2_with fail
      refine (its_any _ lx _ (by omega) Rx.out).mono ?_
      rintro e A10 ⟨vy4, rfl, r, bl⟩
      replace HB := Lib.hid (next HB.out bl)
      replace Ra := Lib.hid (Ra.out.go bl)
      replace Rs := Lib.hid (Rs.out.go bl)
      replace Ry3 := Lib.hid (Ry3.out.go bl)
      replace Rx := Lib.hid (Rx.out.go bl)
      have bz := bl.size
      clear bl
      have Ry4 := Lib.hid r
      clear r
      go_wp2_with fail
      refine (same' _ _ ls lx _ (by omega) Ry3.out Ry4.out Cs.out Cx.out (fun n => by rw [Mx.out])).mono ?_
      rintro e A11 ⟨rfl, bl⟩
      replace HB := Lib.hid (next HB.out bl)
      replace Ra := Lib.hid (Ra.out.go bl)
      replace Rs := Lib.hid (Rs.out.go bl)
      replace Ry3 := Lib.hid (Ry3.out.go bl)
      replace Rx := Lib.hid (Rx.out.go bl)
      replace Ry4 := Lib.hid (Ry4.out.go bl)
      have bz := bl.size
      clear bl
      go_wp2
      go_ret
      exact ⟨rfl, HB.out⟩
theorem add_row (b o i : Nat) : (⟨b, o, none⟩ : Addr).add i = ⟨b, o + i, none⟩ := by
  unfold Addr.add
  split
  · next h => rw [h, Nat.add_zero]
  · rfl
theorem law_order (a : Option Addr) (n cap : Nat) (la : List Ran) (b : Option Addr) (n2 cap2 : Nat) (zs : List Int) (w : World) (hn : la.length = n) (hm : n ≤ maxLen) (r : Rd w (.slice a n cap) la) (u : Nums la) (hz : IsRow .u8 w b n2 cap2 zs) :
    Calls Try.prog 7 #[.slice a n cap, .slice b n2 cap2] w fun e w' => e = .returned (.bool true) ∧ Below w.heap.size w w' := by
  rcases lowB_or la with ga | ga
  · rcases hz with ⟨rfl, rfl, rfl, rfl⟩ | ⟨ad, rfl, hl, hm', hlen, hc, hw⟩
    · exact order_core _ la _ _ _ w (by omega) r u (by unfold maxLen; omega) (fun i hi => by omega) ga
    · refine order_core _ la _ _ _ w (by omega) r u (by omega) (fun i hi => ?_) ga
      have h0 := hc 0 (by omega)
      have hp := plain_addr (w := w) (a := ad) (v := .int .u8 (zs.getD 0 0)) (by simpa [Addr.add] using h0)
      have hi' := hc i (by omega)
      obtain ⟨bb, oo, ss⟩ := ad
      simp only [Addr.mk.injEq, true_and] at hp
      subst hp
      rw [add_row] at hi'
      have hmem : zs.getD i 0 ∈ zs := by rw [List.getD_eq_getElem?_getD, List.getElem?_eq_getElem (by omega)]; exact List.getElem_mem _
      have hb := bounds_u8 (hw _ hmem)
      exact ⟨bb, oo, _, rfl, hb.1, hb.2, hi'⟩
  · exact RangesOrder_no0 _ la _ _ _ w (by omega) r u ga
end Go.Proofs.Ytbapbkhbkpeofaa.Rg
