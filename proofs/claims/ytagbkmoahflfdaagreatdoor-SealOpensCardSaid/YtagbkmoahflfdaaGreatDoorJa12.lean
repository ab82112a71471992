/- The walks of layer 7: the document's Sum · The law DigestSums, walked; texts among the arguments. · The walks of layer 8: Mac, Extract, secretOf, expands, counted. · The walks of layer 8: expanded -/
import Derived.Test.YtagbkmoahflfdaaGreatDoorJa11
import Derived.Deep.RegionHeld3
import Derived.SliceStrings
import Derived.SizedLaws
import Derived.Test.YtagbkmoahflfdaaGreatDoorJa09
import Derived.Test.YtagbkmoahflfdaaGreatDoorJa07
namespace Go.Proofs.YtagbkmoahflfdaaGreatDoor.Dg
set_option maxRecDepth 20000
open Go.RowKit
set_option linter.unusedVariables false
set_option linter.unusedSimpArgs false

theorem be_step (x j : Nat) (hj : j < 4) : (be x).take (j + 1) = (be x).take j ++ [UInt8.ofNat (x / 2 ^ (8 * (3 - j)) % 256)] := by
  have e : ∀ x, UInt8.ofNat (x % 256) = UInt8.ofNat x := by
    intro x
    apply UInt8.toNat_inj.1
    simp [UInt8.toNat_ofNat']
  have : j = 0 ∨ j = 1 ∨ j = 2 ∨ j = 3 := by omega
  rcases this with rfl | rfl | rfl | rfl <;> rw [e] <;> simp [be]
theorem toL_lt {v : V} (h : v.ok) (j : Nat) : v.toL.getD j 0 < 4294967296 := by
  obtain ⟨h0, h1, h2, h3, h4, h5, h6, h7⟩ := h
  rcases Nat.lt_or_ge j 8 with hj | hj
  · have : j = 0 ∨ j = 1 ∨ j = 2 ∨ j = 3 ∨ j = 4 ∨ j = 5 ∨ j = 6 ∨ j = 7 := by omega
    rcases this with rfl | rfl | rfl | rfl | rfl | rfl | rfl | rfl <;> assumption
  · rw [List.getD, List.getElem?_eq_none (show v.toL.length ≤ j from hj)]
    decide
theorem hcell_alloc {w : World} {p : Addr} {v : Value} (h : w.cell? p = some v) (o : Obj) : (w.alloc o).cell? p = some v := by
  rw [World.cell?_alloc_lt _ _ _ (World.block_lt_of_cell? w _ h)]; exact h
theorem ext_blk (T : List UInt8) (i : Nat) (h : i + 64 ≤ T.length) : ((⟨T.toArray⟩ : ByteArray).extract i (i + 64)).data.toList = (T.drop i).take 64 := by
  rw [Lib.extract_data, show i + 64 - i = 64 by omega]
theorem VQ.keep {w w' : World} {b B : Nat} {v : V} (h : VQ w b v) (hb : Below B w w') (hB : b < B) : VQ w' b v := by
  unfold VQ at *
  rw [hb.block b hB]; exact h
theorem VQ.aq {w : World} {b : Nat} {v : V} (h : VQ w b v) : AQ 194 w b v.toL := h
theorem AQ.keepB {T : TypeId} {w w' : World} {b B : Nat} {l : List Nat} (h : AQ T w b l) (hb : Below B w w') (hB : b < B) : AQ T w' b l := by
  unfold AQ at *
  rw [hb.block b hB]; exact h
theorem block_lit (h : V) (s : ByteArray) (w : World) (hv : h.ok) (hs : s.size = 64) :
    Calls Tryz.prog 147 #[.agg #[.int .u64 h.a, .int .u64 h.b, .int .u64 h.c, .int .u64 h.d, .int .u64 h.e, .int .u64 h.f, .int .u64 h.g, .int .u64 h.h], .string s] w fun e w' =>
      e = .returned (.agg #[.int .u64 (take1 h s.data.toList).a, .int .u64 (take1 h s.data.toList).b, .int .u64 (take1 h s.data.toList).c, .int .u64 (take1 h s.data.toList).d, .int .u64 (take1 h s.data.toList).e, .int .u64 (take1 h s.data.toList).f, .int .u64 (take1 h s.data.toList).g, .int .u64 (take1 h s.data.toList).h]) ∧ Below w.heap.size w w' :=
  block_ref h s w hv hs
theorem VQ.put8 {w0 w : World} {b B : Nat} {u : V} (h : VQ w b u) (n : V) (hB : Below B w0 w) (hb : B ≤ b) :
    VQ ((((((((w.setCell ⟨b, 0, none⟩ (.int .u64 n.a)).setCell ⟨b, 1, none⟩ (.int .u64 n.b)).setCell ⟨b, 2, none⟩ (.int .u64 n.c)).setCell ⟨b, 3, none⟩ (.int .u64 n.d)).setCell ⟨b, 4, none⟩ (.int .u64 n.e)).setCell ⟨b, 5, none⟩ (.int .u64 n.f)).setCell ⟨b, 6, none⟩ (.int .u64 n.g)).setCell ⟨b, 7, none⟩ (.int .u64 n.h)) b n ∧
    Below B w0 ((((((((w.setCell ⟨b, 0, none⟩ (.int .u64 n.a)).setCell ⟨b, 1, none⟩ (.int .u64 n.b)).setCell ⟨b, 2, none⟩ (.int .u64 n.c)).setCell ⟨b, 3, none⟩ (.int .u64 n.d)).setCell ⟨b, 4, none⟩ (.int .u64 n.e)).setCell ⟨b, 5, none⟩ (.int .u64 n.f)).setCell ⟨b, 6, none⟩ (.int .u64 n.g)).setCell ⟨b, 7, none⟩ (.int .u64 n.h)) := by
  refine ⟨Dg.put8 _ _ _ _ _ _ _ _ _ _ _ _ _ _ _ _ h, ?_⟩
  iterate 8 (with_reducible refine Below.setCell ?_ hb _)
  exact hB

set_option maxHeartbeats 8000000 in
theorem sum_ref (s : ByteArray) (w : World) (hs : s.size ≤ 100000) :
    Calls Tryz.prog 116 #[.string s] w fun e w' => e = .returned (.string ⟨(sha s.data.toList).toArray⟩) ∧ Below w.heap.size w w' := by
  have CF := Lib.hid (fun W => filled_ref s W hs)
  obtain ⟨N, hN⟩ := pad_len s.data.toList
  have HF : Hid (sha s.data.toList = bes (blocks N (pad s.data.toList) H0).toL) := Lib.hid (by unfold sha; rw [hN, Nat.mul_div_cancel_left N (by decide)])
  obtain ⟨F, hF⟩ : ∃ F, blocks N (pad s.data.toList) H0 = F := ⟨_, rfl⟩
  rw [hF] at HF
  have hp : (pad s.data.toList).length ≤ 200000 := by
    have h1 : s.data.toList.length = s.size := by simp
    simp only [pad, List.length_append, List.length_replicate, bes_len, List.length_cons, List.length_nil]
    unfold zs
    omega
  generalize pad s.data.toList = T at *
  have hN1 : N ≤ 4000 := by omega
  have HBL := Lib.hid hF
  clear hF
  have CB := Lib.hid (fun (k : Nat) (v : V) (hv : v.ok) (hk : k < N) (W : World) => block_lit v ((⟨T.toArray⟩ : ByteArray).extract (64 * k) (64 * k + 64)) W hv (by
    have h1 := ext_blk T (64 * k) (by omega)
    show ((⟨T.toArray⟩ : ByteArray).extract (64 * k) (64 * k + 64)).data.size = 64
    rw [← Array.length_toList, h1, List.length_take, List.length_drop]
    omega))
  obtain ⟨tp, htp⟩ : ∃ tp : ByteArray, ⟨T.toArray⟩ = tp := ⟨_, rfl⟩
  have hsz : tp.size = 64 * N := by rw [← htp, ← hN]; rfl
  have HEX := Lib.hid (fun i h => ext_blk T i h)
  rw [htp] at CF CB HEX
  have HN := Lib.hid hN
  clear htp hN hp
  go_enter Tryz.func116, Tryz.ntmps116
  go_wp2_with fail
  refine (CF.out _).mono ?_
  rintro e w1 ⟨rfl, hb1⟩
  have HV1 : Hid (VQ w1 w.heap.size H0) := Lib.hid (VQ.keep (show VQ (w.alloc (.cells #[.int .u64 H0.a, .int .u64 H0.b, .int .u64 H0.c, .int .u64 H0.d, .int .u64 H0.e, .int .u64 H0.f, .int .u64 H0.g, .int .u64 H0.h] 194)) w.heap.size H0 from heap_alloc_new w _) hb1 (by simp))
  have HB1 := Lib.hid (((Below.refl _ _).alloc (Nat.le_refl _) _).trans (hb1.mono (by simp)))
  clear hb1
  go_wp2_with fail
  go_loopw [5] (fun iv wr => ∃ (k n : Nat) (v : V), N = k + n ∧ iv = .int .i64 (64 * k : Nat) ∧ v.ok ∧ VQ wr w.heap.size v ∧ blocks n (T.drop (64 * k)) v = F ∧ Below w.heap.size w wr) (fun iv _ => tp.size - (intOf iv).toNat)
  case atStart => exact ⟨0, N, H0, by omega, rfl, H0_ok, HV1.out, HBL.out, HB1.out⟩
  case round =>
    clear HV1 HB1
    obtain ⟨k, n, v, hkn, rfl, hv, hV, hf, hB⟩ := hrel
    have HV := Lib.hid hV
    have HB := Lib.hid hB
    have HVO := Lib.hid hv
    have hlt0 := hV.lt
    cases n with
    | zero =>
      have hv2 : v = F := by rw [← hf, blocks_none]
      subst hv2
      obtain ⟨i, hi⟩ : ∃ i, 64 * k = i := ⟨_, rfl⟩
      have hge : ¬ ((i : Int) < (tp.size : Int)) := by omega
      rw [hi]
      clear hi hV hB hf hv
      have HBr := Lib.hid (HB.out.alloc (B := w.heap.size) HB.out.size (.cells #[] 5))
      have HQ : Hid (AQ 194 (wr.alloc (.cells #[] 5)) w.heap.size v.toL) := Lib.hid ((Lib.alloc_old _ _ _ hlt0).trans HV.out.aq)
      have HO : Hid (OwnM (wr.alloc (.cells #[] 5)) (w.heap.size + 1) (.slice (some ⟨wr.heap.size, 0, none⟩) 0 0) []) := Lib.hid ⟨wr.heap.size, 0, #[], (0, 0), rfl, hlt0, heap_alloc_new wr _, .inr rfl, Nat.le_refl _, by decide, rfl, rfl⟩
      obtain ⟨L, hL⟩ : ∃ L, v.toL = L := ⟨_, rfl⟩
      have hLl : L.length = 8 := by rw [← hL]; rfl
      have HLB : Hid (∀ j, L.getD j 0 < 4294967296) := Lib.hid (by rw [← hL]; exact toL_lt HVO.out)
      rw [hL] at HQ HF
      clear hL HV HB CB HEX HVO
      go_wp2
      go_loopw [6, 7] (fun bv iv wx => ∃ (k g c : Nat), k ≤ 8 ∧ iv = .int .i64 k ∧ bv = .slice (some ⟨g, 0, none⟩) (4 * k) c ∧ OwnM wx (w.heap.size + 1) (.slice (some ⟨g, 0, none⟩) (4 * k) c) (bes (L.take k)) ∧ AQ 194 wx w.heap.size L ∧ Below w.heap.size w wx) (fun _ iv _ => 8 - (intOf iv).toNat)
      case atStart => exact ⟨0, wr.heap.size, 0, by omega, rfl, rfl, HO.out, HQ.out, HBr.out⟩
      case round =>
        clear HO HQ HBr hlt0
        obtain ⟨k, g, c, hk, rfl, rfl, hO, hQ, hB⟩ := hrel
        have HO := Lib.hid hO
        have HQ := Lib.hid hQ
        have HBr := Lib.hid hB
        by_cases hk8 : k < 8
        · have hcq := fun (wx : World) (h : AQ 194 wx w.heap.size L) => h.cell k (by omega)
          have HBS := Lib.hid (bes_step L k (by omega))
          have HXB : Hid (L.getD k 0 < 4294967296) := Lib.hid (HLB.out k)
          generalize L.getD k 0 = x at hcq HBS HXB
          have HCQ := Lib.hid hcq
          obtain ⟨q, hq⟩ : ∃ q, 4 * k = q := ⟨_, rfl⟩
          rw [hq] at HO ⊢
          have hXl : (bes (L.take k)).length = q := by rw [bes_len, List.length_take]; omega
          generalize bes (L.take k) = X at HO HBS hXl
          have HXL := Lib.hid hXl
          have HQK := Lib.hid hq
          have hq1 : q ≤ 32 := by omega
          have b2 : (k : Int) < 8 := by omega
          clear hcq hXl hq hO hQ hB
          go_wp2
          go_loopw [6, 8] (fun bv nv wx => ∃ (j g c : Nat), j ≤ 4 ∧ nv = .int .i64 (3 - (j : Int)) ∧ bv = .slice (some ⟨g, 0, none⟩) (q + j) c ∧ OwnM wx (w.heap.size + 1) (.slice (some ⟨g, 0, none⟩) (q + j) c) (X ++ (be x).take j) ∧ AQ 194 wx w.heap.size L ∧ Below w.heap.size w wx) (fun _ nv _ => (intOf nv + 1).toNat)
          case atStart => exact ⟨0, g, c, Nat.zero_le _, rfl, rfl, by simpa using HO.out, HQ.out, HBr.out⟩
          case round =>
            clear HO HQ HBr
            obtain ⟨j, g, c, hj, rfl, rfl, hO, hQ, hB⟩ := hrel
            have HO := Lib.hid hO
            have HQ := Lib.hid hQ
            have HBr := Lib.hid hB
            have hsz := hB.size
            have hlt1 := hQ.lt
            by_cases hj4 : j < 4
            · have hcx := HCQ.out wr hQ
              obtain ⟨m, hm⟩ : ∃ m, 3 - j = m := ⟨_, rfl⟩
              have him : 3 - (j : Int) = (m : Int) := by omega
              have HS := Lib.hid (be_step x j hj4)
              rw [hm] at HS
              obtain ⟨E, hE⟩ : ∃ E, 8 * m = E := ⟨_, rfl⟩
              rw [hE] at HS
              have hE1 : E ≤ 24 := by omega
              have CP := Lib.hid (fun w => power_ref E w (by omega))
              have e1 : (8 : Int) * (m : Int) = (E : Int) := by omega
              have e1' : IntKind.i64.wrap ((8 : Int) * (m : Int)) = (E : Int) := by rw [IntWalk.i64_in _ (by omega)]; omega
              have e1'' : IntKind.i64.wrap (E : Int) = (E : Int) := by rw [IntWalk.i64_in _ (by omega)]
              have hp0 : 1 ≤ 2 ^ E := Nat.one_le_two_pow
              obtain ⟨P, hP⟩ : ∃ P, 2 ^ E = P := ⟨_, rfl⟩
              rw [hP] at HS CP hp0
              obtain ⟨D, hD⟩ : ∃ D, x / P = D := ⟨_, rfl⟩
              rw [hD] at HS
              have e4 : (x : Int) / (P : Int) = (D : Int) := by rw [← hD]; push_cast; rfl
              have e4' : (x : Int).tdiv (P : Int) = (D : Int) := by rw [Int.tdiv_eq_ediv_of_nonneg (by omega)]; exact e4
              have hxb := HXB.out
              have hDx : D ≤ x := by rw [← hD]; exact Nat.div_le_self x P
              have e4'' : IntKind.u64.wrap (D : Int) = (D : Int) := by rw [IntKind.wrap_u64]; omega
              obtain ⟨R, hR⟩ : ∃ R, D % 256 = R := ⟨_, rfl⟩
              rw [hR] at HS
              have hR1 : R < 256 := by omega
              have e5 : (D : Int) % 256 = (R : Int) := by omega
              have e5' : (D : Int).tmod 256 = (R : Int) := by rw [Int.tmod_eq_emod_of_nonneg (by omega)]; exact e5
              have e6 : IntKind.u8.wrap (R : Int) = (R : Int) := by rw [IntKind.wrap_u8]; omega
              have e6' : (R : Int) % 256 = (R : Int) := by omega
              have e7 : (UInt8.ofNat R).toNat = R := by rw [UInt8.toNat_ofNat', Nat.mod_eq_of_lt (by omega)]
              have hPne : ((P : Int) == 0) = false := by rw [beq_eq_false_iff_ne]; omega
              have hP0 : ¬ P = 0 := by omega
              have hXj : q + j = (X ++ (be x).take j).length := by rw [List.length_append, HXL.out, List.length_take, be_len]; omega
              obtain ⟨g2, c2, w3, ha, ho3, hb3⟩ := push_M wr.drew (w.heap.size + 1) 66 g (q + j) c _ (UInt8.ofNat R) hXj HO.out (by omega) hlt1
              rw [e7] at ha
              rw [List.append_assoc, ← HS.out] at ho3
              have HA := Lib.hid ha
              have HO3 := Lib.hid ho3
              have HQ3 := Lib.hid (HQ.out.drew.keepB hb3 (Nat.lt_succ_self _))
              have HCX := Lib.hid (HCQ.out _ HQ3.out)
              have HB3 := Lib.hid ((below_drew HBr.out).trans (hb3.mono (Nat.le_succ _)))
              have HM := Lib.hid hm
              have b1 : (0 : Int) ≤ (k : Int) := by omega
              clear ha ho3 hb3 hXj e7 hE hD hP hR hm HS HBr hO hQ hB hDx hxb
              rw [him]
              go_wp2
              refine wp_region_noPanic ?_
              refine wp_region_held_drew (S := fun w' : World => w'.cell? ⟨w.heap.size, k, none⟩ = some (.int .u64 (x : Nat))) (by kernel_rfl) ?_ (fun hHeld => ?_)
              · exact hcx
              refine wpAnyH_take (i := 0) (v := ?_) rfl (by kernel_rfl) (by kernel_rfl) (by kernel_rfl) (fun _ _ _ h => h) (Or.inl ⟨by rfl, ?_⟩) (by assumption) ?_
              rotate_left
              · (intro w hSw; (try dsimp only at hSw); go_simp; (try with_reducible rfl))
              try simp only [Act.put, List.getElem_toArray, List.getElem_cons_zero, List.getElem_cons_succ, List.setIfInBounds_toArray, List.set_cons_zero, List.set_cons_succ]
              refine wpAnyH_take (i := 1) (v := ?_) rfl (by kernel_rfl) (by kernel_rfl) (by kernel_rfl) (fun _ _ _ h => h) (Or.inl ⟨by rfl, ?_⟩) (by assumption) ?_
              rotate_left
              · (intro w hSw; (try dsimp only at hSw); go_simp; (try with_reducible rfl))
              try simp only [Act.put, List.getElem_toArray, List.getElem_cons_zero, List.getElem_cons_succ, List.setIfInBounds_toArray, List.set_cons_zero, List.set_cons_succ]
              refine wpAnyH_take (i := 2) (v := ?_) rfl (by kernel_rfl) (by kernel_rfl) (by kernel_rfl) (fun _ _ _ h => h) (Or.inl ⟨by rfl, ?_⟩) (by assumption) ?_
              rotate_left
              · (intro w hSw; (try dsimp only at hSw); go_simp; (try with_reducible rfl))
              try simp only [Act.put, List.getElem_toArray, List.getElem_cons_zero, List.getElem_cons_succ, List.setIfInBounds_toArray, List.set_cons_zero, List.set_cons_succ]
              refine wpAnyH_take (i := 3) (v := ?_) rfl (by kernel_rfl) (by kernel_rfl) (by kernel_rfl) (fun _ _ _ h => h) (Or.inl ⟨by rfl, ?_⟩) (by assumption) ?_
              rotate_left
              · (intro w hSw; (try dsimp only at hSw); go_simp; (try with_reducible rfl))
              try simp only [Act.put, List.getElem_toArray, List.getElem_cons_zero, List.getElem_cons_succ, List.setIfInBounds_toArray, List.set_cons_zero, List.set_cons_succ]
              refine wpAnyH_take (i := 4) (v := ?_) rfl (by kernel_rfl) (by kernel_rfl) (by kernel_rfl) (fun _ _ _ h => h) (Or.inl ⟨by rfl, ?_⟩) (by assumption) ?_
              rotate_left
              · (intro w hSw; (try dsimp only at hSw); go_simp; (try with_reducible rfl))
              try simp only [Act.put, List.getElem_toArray, List.getElem_cons_zero, List.getElem_cons_succ, List.setIfInBounds_toArray, List.set_cons_zero, List.set_cons_succ]
              refine wpAnyH_take (i := 5) (v := ?_) rfl (by kernel_rfl) (by kernel_rfl) (by kernel_rfl) (fun _ _ _ h => h) (Or.inl ⟨by rfl, ?_⟩) (by assumption) ?_
              rotate_left
              · (intro w hSw; (try dsimp only at hSw); go_simp; (try with_reducible rfl))
              try simp only [Act.put, List.getElem_toArray, List.getElem_cons_zero, List.getElem_cons_succ, List.setIfInBounds_toArray, List.set_cons_zero, List.set_cons_succ]
              refine wpAnyH_ready (rs := [6]) (by kernel_rfl) (by simp) ?_
              refine AllReadyH.cons rfl (fun K hK => ?_) AllReadyH.nil
              rw [if_pos (by rfl)]
              go_simp
              with_reducible refine (CP.out _).mono ?_
              rintro e w4 ⟨rfl, rfl⟩
              refine hK.out _ _ ?_ (fun hHeld => ?_)
              · exact hcx
              clear hK K
              try simp only [Act.put, List.getElem_toArray, List.getElem_cons_zero, List.getElem_cons_succ, List.setIfInBounds_toArray, List.set_cons_zero, List.set_cons_succ]
              refine wpAnyH_take (i := 7) (v := ?_) rfl (by kernel_rfl) (by kernel_rfl) (by kernel_rfl) (fun _ _ _ h => h) (Or.inl ⟨by rfl, ?_⟩) (by assumption) ?_
              rotate_left
              · (intro w hSw; (try dsimp only at hSw); go_simp; (try with_reducible rfl))
              try simp only [Act.put, List.getElem_toArray, List.getElem_cons_zero, List.getElem_cons_succ, List.setIfInBounds_toArray, List.set_cons_zero, List.set_cons_succ]
              refine wpAnyH_take (i := 8) (v := ?_) rfl (by kernel_rfl) (by kernel_rfl) (by kernel_rfl) (fun _ _ _ h => h) (Or.inl ⟨by rfl, ?_⟩) (by assumption) ?_
              rotate_left
              · (intro w hSw; (try dsimp only at hSw); go_simp; (try with_reducible rfl))
              try simp only [Act.put, List.getElem_toArray, List.getElem_cons_zero, List.getElem_cons_succ, List.setIfInBounds_toArray, List.set_cons_zero, List.set_cons_succ]
              refine wpAnyH_take (i := 9) (v := ?_) rfl (by kernel_rfl) (by kernel_rfl) (by kernel_rfl) (fun _ _ _ h => h) (Or.inl ⟨by rfl, ?_⟩) (by assumption) ?_
              rotate_left
              · (intro w hSw; (try dsimp only at hSw); go_simp; (try with_reducible rfl))
              try simp only [Act.put, List.getElem_toArray, List.getElem_cons_zero, List.getElem_cons_succ, List.setIfInBounds_toArray, List.set_cons_zero, List.set_cons_succ]
              refine wpAnyH_ready (rs := [10]) (by kernel_rfl) (by simp) ?_
              refine AllReadyH.cons rfl (fun K hK => ?_) AllReadyH.nil
              rw [if_pos (by rfl)]
              go_simp
              refine hK.out _ _ ?_ (fun hHeld => ?_)
              · exact (hcell_alloc hcx _)
              clear hK K
              try simp only [Act.put, List.getElem_toArray, List.getElem_cons_zero, List.getElem_cons_succ, List.setIfInBounds_toArray, List.set_cons_zero, List.set_cons_succ]
              refine wpAnyH_ready (rs := [11]) (by kernel_rfl) (by simp) ?_
              refine AllReadyH.cons rfl (fun K hK => ?_) AllReadyH.nil
              rw [if_pos (by rfl)]
              refine Lib.wp_append_run _ _ _ _ _ rfl _ _ rfl rfl _ _ HA.out ?_
              refine hK.out _ _ ?_ (fun hHeld => ?_)
              · exact HCX.out
              clear hK K
              try simp only [Act.put, List.getElem_toArray, List.getElem_cons_zero, List.getElem_cons_succ, List.setIfInBounds_toArray, List.set_cons_zero, List.set_cons_succ]
              refine wpAnyH_take (i := 12) (v := ?_) rfl (by kernel_rfl) (by kernel_rfl) (by kernel_rfl) (fun _ _ _ h => h) (Or.inl ⟨by rfl, ?_⟩) (by assumption) ?_
              rotate_left
              · (intro w hSw; (try dsimp only at hSw); go_simp; (try with_reducible rfl))
              try simp only [Act.put, List.getElem_toArray, List.getElem_cons_zero, List.getElem_cons_succ, List.setIfInBounds_toArray, List.set_cons_zero, List.set_cons_succ]
              refine wpAnyH_done (by kernel_rfl) (NoPanic.normal ?_) _
              go_wp2
              go_roundw
              case rel => exact ⟨j + 1, g2, c2, by omega, by have := HM.out; go_num, rfl, HO3.out, HQ3.out, HB3.out⟩
              case measure => have := HM.out; simp [intOf]
            · obtain rfl : j = 4 := by omega
              rw [List.take_of_length_le (by rw [be_len]; exact Nat.le_refl _), ← HBS.out] at HO
              clear hO hQ hB
              go_wp2
              go_roundw
              case rel => exact ⟨k + 1, g, c, by omega, by go_num, by rw [Nat.mul_add, HQK.out], by rw [Nat.mul_add, HQK.out]; exact HO.out, HQ.out, HBr.out⟩
              case measure => simp [intOf]; omega
        · obtain rfl : k = 8 := by omega
          rw [List.take_of_length_le (by omega), ← HF.out] at HO
          have hcv : (convert 66 9 (.slice (some ⟨g, 0, none⟩) (4 * 8) c)).run Tryz.prog wr = .ok (.string ⟨(sha s.data.toList).toArray⟩) wr := conv_ownM _ (by rw [sha_len]) HO.out
          clear HO hO hQ hB
          go_wp2
          go_ret
          exact ⟨rfl, HBr.out⟩
    | succ n =>
      have CB1 := Lib.hid (CB.out k v hv (by omega))
      rw [HEX.out (64 * k) (by rw [HN.out]; omega)] at CB1
      have HVN : Hid ((take1 v ((T.drop (64 * k)).take 64)).ok) := Lib.hid (plus_ok _ _)
      have hf2 := hf
      rw [blocks_step, List.drop_drop] at hf2
      generalize take1 v ((T.drop (64 * k)).take 64) = v2 at *
      have HF2 : Hid (blocks n (T.drop (64 * (k + 1))) v2 = F) := Lib.hid (by rw [← hf2]; rfl)
      obtain ⟨i, hi⟩ : ∃ i, 64 * k = i := ⟨_, rfl⟩
      rw [hi] at CB1 ⊢
      have hlt : (i : Int) < (tp.size : Int) := by omega
      have b1 : (0 : Int) ≤ (i : Int) := by omega
      have b3 : IntKind.i64.wrap ((i : Int) + 64) = (i : Int) + 64 := by rw [IntWalk.i64_in _ (by omega)]
      have b4 : (i : Int) + 64 ≤ (tp.size : Int) := by omega
      have b5 : ((i : Int) + 64).toNat = i + 64 := by omega
      have b6 : (i : Int) ≤ (i : Int) + 64 := by omega
      obtain ⟨c0, c1, c2, c3, c4, c5, c6, c7⟩ := hV.cells
      have HI := Lib.hid hi
      clear hf hf2 hi hV hB hv CB HEX
      go_wp2_with fail
      go_region_with (go_at_call 147; (with_reducible refine (CB1.out _).mono ?_); rintro e1 w2 ⟨rfl, hb2⟩; have hV2 := VQ.keep (b := w.heap.size) (v := v) (by exact HV.out) hb2 (by exact hlt0); have H2 := Lib.hid hb2; obtain ⟨d0, d1, d2, d3, d4, d5, d6, d7⟩ := hV2.cells; have df := hV2.fz; have HV2 := Lib.hid hV2; clear hV2 hb2)
      all_goals
        go_wp2
        go_roundw
        case rel =>
          have hP := VQ.put8 HV2.out v2 (below_of HB.out H2.out HB.out.size) (Nat.le_refl _)
          exact ⟨k + 1, n, v2, by omega, by have := HI.out; go_num, HVN.out, hP.1, HF2.out, hP.2⟩
        case measure => have := HI.out; simp [intOf]; omega
end Go.Proofs.YtagbkmoahflfdaaGreatDoor.Dg
namespace Go.Proofs.YtagbkmoahflfdaaGreatDoor.Dg
set_option maxRecDepth 20000
open Go.RowKit
set_option linter.unusedVariables false
set_option linter.unusedSimpArgs false

/-- Texts among the arguments: what is read of them, and how long they may be. -/
def ArgS (w : World) (a : Option Addr) (len cap : Nat) (xs : List ByteArray) : Prop :=
  xs.length = len ∧ len ≤ cap ∧ len ≤ 140737488355328 ∧ (∀ s ∈ xs, s.size ≤ 140737488355328) ∧ (xs ≠ [] → ∃ b o, a = some ⟨b, o, none⟩ ∧ RowS w b o xs)
theorem ArgS.nil {w : World} {a : Option Addr} {len cap : Nat} {xs : List ByteArray} (h : ArgS w a len cap xs) (hx : xs = []) : len = 0 := by
  rw [← h.1, hx]; rfl
theorem ArgS.keep {w w' : World} {a : Option Addr} {len cap : Nat} {xs : List ByteArray} (h : ArgS w a len cap xs) (hb : Below w.heap.size w w') : ArgS w' a len cap xs :=
  ⟨h.1, h.2.1, h.2.2.1, h.2.2.2.1, fun hne => by
    obtain ⟨b, o, ha, hr⟩ := h.2.2.2.2 hne
    exact ⟨b, o, ha, hr.below hb hr.1⟩⟩
end Go.Proofs.YtagbkmoahflfdaaGreatDoor.Dg
namespace Go.Proofs.YtagbkmoahflfdaaGreatDoor.Kd
set_option maxRecDepth 20000
open Go.RowKit
open Go.Proofs.YtagbkmoahflfdaaGreatDoor.Dg
open Go.Proofs.YtagbkmoahflfdaaGreatDoor.Vm (fx fx_length vfixed)
set_option linter.unusedVariables false
set_option linter.unusedSimpArgs false

theorem join_row (b o c : Nat) (xs : List ByteArray) (W : World) (hr : RowS W b o xs) (hn : xs.length ≤ 140737488355328) (hc : xs.length ≤ c) (hl : (cat xs).length ≤ 140737488355328) :
    Calls Tryz.prog 142 #[.slice (some ⟨b, o, none⟩) xs.length c, .string ⟨#[]⟩] W fun e w' => e = .returned (.string ⟨(cat xs).toArray⟩) ∧ Below W.heap.size W w' := by
  have hj : Lib.join (xs.map (·.data.toList)) (⟨#[]⟩ : ByteArray).data.toList = cat xs := join_cat _
  have h := Tryz.strings_Join b o c xs ⟨#[]⟩ W hr.2 hr.1 hn hc (by rw [hj]; exact hl)
  rw [hj] at h
  exact h
/-- The join of the texts of a new row, in whatever world comes behind. -/
theorem join_new (xs : List ByteArray) (cs : Array Value) (hcs : cs = (xs.map Value.string).toArray) (n : Nat) (hn : xs.length = n) (hn2 : n ≤ 1000) (l : List UInt8) (hc : cat xs = l) (hl : l.length ≤ 100000) (W W' : World) (g : Nat) (hg : g = W.heap.size)
    (hb : Below (W.alloc (.cells cs 9)).heap.size (W.alloc (.cells cs 9)) W') :
    Calls Tryz.prog 142 #[.slice (some ⟨g, 0, none⟩) n n, .string ⟨#[]⟩] W' fun e w' => e = .returned (.string ⟨l.toArray⟩) ∧ Below W'.heap.size W' w' := by
  subst hg hn hc
  have hr := (rows_made W cs xs hcs 9).below hb (by simp)
  exact join_row W.heap.size 0 xs.length xs W' hr (by omega) (Nat.le_refl _) (by omega)
set_option maxHeartbeats 2000000 in
theorem mac_of (k l : List UInt8) (vs : Value) (w : World) (hk : k.length ≤ 100000) (hl : l.length ≤ 50000)
    (CJ : Hid (∀ W : World, Below w.heap.size w W → Calls Tryz.prog 142 #[vs, .string ⟨#[]⟩] W fun e w' => e = .returned (.string ⟨l.toArray⟩) ∧ Below W.heap.size W w')) :
    Calls Tryz.prog 114 #[.string ⟨k.toArray⟩, vs] w fun e w' => e = .returned (.string ⟨(mac k l).toArray⟩) ∧ Below w.heap.size w w' := by
  have C1 := Lib.hid (fun W => macOf_list k W hk)
  have C2 : Hid (∀ W : World, Below w.heap.size w W → Calls Tryz.prog 145 #[.agg #[.string ⟨(ko k).toArray⟩, .string ⟨(ki k).toArray⟩], vs] W fun e w' => e = .returned (.string ⟨(mac k l).toArray⟩) ∧ Below W.heap.size W w') := Lib.hid (fun W hW =>
    of_of ⟨(ko k).toArray⟩ ⟨(ki k).toArray⟩ vs l (mac k l) W (by show (ko k).length ≤ _; rw [ko_len]; omega) (by show (ki k).length ≤ _; rw [ki_len]; omega) hl rfl (Lib.hid fun W' hW' => CJ.out W' (hW.trans (hW'.mono hW.size))))
  generalize mac k l = M at *
  generalize ko k = KO at *
  generalize ki k = KI at *
  clear CJ
  go_enter Tryz.func114, Tryz.ntmps114
  go_wp2_with fail
  with_reducible refine (C1.out _).mono ?_
  rintro e w1 ⟨rfl, hb⟩
  have HB1 := Lib.hid hb
  clear hb
  go_wp2_with fail
  with_reducible refine (C2.out _ HB1.out).mono ?_
  rintro e w2 ⟨rfl, hb⟩
  have HB2 := Lib.hid (HB1.out.trans (hb.mono HB1.out.size))
  clear hb
  go_wp2
  go_ret
  exact ⟨rfl, HB2.out⟩
theorem inf_secret : (Tryz.prog.info? 82).map (·.size) = some 2 := by kernel_rfl
set_option maxHeartbeats 2000000 in
theorem secretOf_any (k : List UInt8) (w : World) (hk : k.length ≤ 100000) :
    Calls Tryz.prog 41 #[.string ⟨k.toArray⟩] w fun e w' => e = .returned (.agg #[.string ⟨(ko k).toArray⟩, .string ⟨(ki k).toArray⟩]) ∧ Below w.heap.size w w' := by
  have C1 := Lib.hid (fun W => macOf_list k W hk)
  generalize ko k = KO at *
  generalize ki k = KI at *
  go_enter Tryz.func41, Tryz.ntmps41
  go_wp2_with fail
  with_reducible refine (C1.out _).mono ?_
  rintro e w1 ⟨rfl, hb⟩
  have HB1 := Lib.hid (((Below.refl w.heap.size w).alloc (Nat.le_refl _) (.cells #[.string ⟨#[]⟩, .string ⟨#[]⟩] 82)).trans (hb.mono (by simp)))
  have HZ1 : Hid (w1.heap[w.heap.size]? = some (.cells #[.string ⟨#[]⟩, .string ⟨#[]⟩] 82 (0, 0))) := Lib.hid ((hb.block w.heap.size (by simp)).trans (heap_alloc_new w _))
  have hz0 : w1.cell? ⟨w.heap.size, 0, none⟩ = some (.string ⟨#[]⟩) := by rw [Lib.cell_of_heap HZ1.out]; rfl
  have hz1 : w1.cell? ⟨w.heap.size, 1, none⟩ = some (.string ⟨#[]⟩) := by rw [Lib.cell_of_heap HZ1.out]; rfl
  have hf : ∀ j, w1.frozen? ⟨w.heap.size, j, none⟩ = false := fun j => Lib.frozen_of_heap HZ1.out j
  clear hb
  go_wp2_with fail
  exact bodyPost_ret (v := .agg #[.string ⟨KO.toArray⟩, .string ⟨KI.toArray⟩]) (results_cell_row Tryz.results41 _ _ w.heap.size _ _ _ _ rfl (two_put HZ1.out) Tryz.underlying82 rfl inf_secret) rfl ⟨rfl, Below.setCell (p := ⟨w.heap.size, 1, none⟩) (Below.setCell (p := ⟨w.heap.size, 0, none⟩) HB1.out (Nat.le_refl _) _) (Nat.le_refl _) _⟩
set_option maxHeartbeats 1000000 in
theorem counted_any (s : List UInt8) (w : World) (hs : s.length ≤ 100000) : Calls Tryz.prog 110 #[.string ⟨s.toArray⟩] w fun e w' => e = .returned (.string ⟨(cnt s).toArray⟩) ∧ Below w.heap.size w w' := by
  obtain ⟨n, hn⟩ : ∃ n, s.length = n := ⟨_, rfl⟩
  have C1 : Hid (∀ W : World, Calls Tryz.prog 88 #[.int .u64 n, .int .i64 1] W fun e w' => e = .returned (.string ⟨(fx n 1).toArray⟩) ∧ Below W.heap.size W w') := Lib.hid (fun W => vfixed n 1 W (by omega) (by decide) (by decide))
  have hsz : (⟨s.toArray⟩ : ByteArray).size = n := hn
  have hc : (⟨(fx n 1).toArray⟩ : ByteArray) ++ ⟨s.toArray⟩ = ⟨(cnt s).toArray⟩ := by rw [app_two, ← hn]; rfl
  have hf : (⟨(fx n 1).toArray⟩ : ByteArray).size = 1 := fx_length n 1
  have hw : IntKind.u64.wrap (n : Int) = (n : Int) := by rw [IntKind.wrap_u64]; omega
  have g1 : ¬ 9223372036854775807 < 1 + n := by omega
  generalize cnt s = C at *
  generalize fx n 1 = F at *
  clear hs
  go_enter Tryz.func110, Tryz.ntmps110
  go_wp2_with fail
  with_reducible refine (C1.out _).mono ?_
  rintro e w1 ⟨rfl, hb⟩
  have HB1 := Lib.hid hb
  clear hb
  go_wp2
  go_ret
  exact ⟨rfl, HB1.out⟩
end Go.Proofs.YtagbkmoahflfdaaGreatDoor.Kd
namespace Go.Proofs.YtagbkmoahflfdaaGreatDoor.Kd
set_option maxRecDepth 20000
open Go.RowKit
open Go.Proofs.YtagbkmoahflfdaaGreatDoor.Dg
open Go.Proofs.YtagbkmoahflfdaaGreatDoor.Vm (fx fx_length vfixed)
set_option linter.unusedVariables false
set_option linter.unusedSimpArgs false

theorem ib_keep {T e : TypeId} {B b : Nat} {bs : List Value} {w w' : World} (h : Lib.IsBuilder T e B b bs w) (hb : Below w.heap.size w w') : Lib.IsBuilder T e B b bs w' := by
  have k : ∀ p, Lib.BuilderAt T e B b p bs w → Lib.BuilderAt T e B b p bs w' := by
    rintro p ⟨h1, v, h2, h3, h4⟩
    refine ⟨h1, v, by rw [hb.block b (Array.getElem?_eq_some_iff.1 h2).1]; exact h2, ?_, h4⟩
    exact h3.kept (row := none) ⟨hb.os, hb.tape, hb.output, hb.size, fun k hk _ => hb.block k hk⟩ (by
      cases hv : v.ownBlock with
      | none => exact .inl rfl
      | some g => exact .inr (by intro e; cases e))
  exact h.imp (k _) (k _)
theorem two_below {b q r B : Nat} {v u : Value} {w w' : World} (h : w.cell? ⟨b, q, none⟩ = some v ∧ w.cell? ⟨b, r, none⟩ = some u) (hb : Below B w w') (hB : b < B) : w'.cell? ⟨b, q, none⟩ = some v ∧ w'.cell? ⟨b, r, none⟩ = some u :=
  ⟨(hb.cell (p := ⟨b, q, none⟩) hB).trans h.1, (hb.cell (p := ⟨b, r, none⟩) hB).trans h.2⟩
theorem strCells_of (l : List UInt8) : Lib.strCells ⟨l.toArray⟩ = Lib.byteCells l := by
  simp [Lib.strCells, Lib.byteCells]
theorem cat_3 (a b c : List UInt8) : cat [⟨a.toArray⟩, ⟨b.toArray⟩, ⟨c.toArray⟩] = a ++ b ++ c := by simp [cat]
set_option maxHeartbeats 8000000 in
theorem expanded_of (O I info : List UInt8) (n : Nat) (vs : Value) (w : World) (hO : O.length ≤ 100) (hI : I.length ≤ 100) (hi : info.length ≤ 10000) (hn : n ≤ 8160)
    (CJ : Hid (∀ W : World, Below w.heap.size w W → Calls Tryz.prog 142 #[vs, .string ⟨#[]⟩] W fun e w' => e = .returned (.string ⟨info.toArray⟩) ∧ Below W.heap.size W w')) :
    Calls Tryz.prog 109 #[.agg #[.string ⟨O.toArray⟩, .string ⟨I.toArray⟩], .int .i64 n, vs] w fun e w' => e = .returned (.string ⟨(exq O I info n).toArray⟩) ∧ Below w.heap.size w w' := by
  have HW0 : Hid (Below w.heap.size w (w.alloc (.cells #[.string ⟨O.toArray⟩, .string ⟨I.toArray⟩] 82))) := Lib.hid ((Below.refl _ _).alloc (Nat.le_refl _) _)
  have HT0 : Hid ((w.alloc (.cells #[.string ⟨O.toArray⟩, .string ⟨I.toArray⟩] 82)).cell? ⟨w.heap.size, 0, none⟩ = some (.string ⟨O.toArray⟩) ∧ (w.alloc (.cells #[.string ⟨O.toArray⟩, .string ⟨I.toArray⟩] 82)).cell? ⟨w.heap.size, 1, none⟩ = some (.string ⟨I.toArray⟩)) := Lib.hid (by constructor <;> simp [go_sem])
  obtain ⟨M, hM⟩ : ∃ M, (n + 31) / 32 = M := ⟨_, rfl⟩
  have hMn : n ≤ 32 * M := by omega
  have HX : Hid (exq O I info n = (outs O I info M).take n) := Lib.hid (by unfold exq; rw [hM])
  have HMM := Lib.hid hM
  generalize exq O I info n = X at *
  clear hM
  have hni : (n : Int) ≤ 8160 := by omega
  go_enter Tryz.func109, Tryz.ntmps109
  go_wp2_with fail
  with_reducible refine (CJ.out _ HW0.out).mono ?_
  rintro e w1 ⟨rfl, hb1⟩
  have HB1 := Lib.hid (HW0.out.trans (hb1.mono HW0.out.size))
  have HT1 := Lib.hid (two_alloc (two_call HT0.out hb1) (.cells #[.pointer none, .slice none 0 0] 68))
  have HIB := Lib.hid (Lib.fresh_isBuilder 68 5 w1)
  have hs1 := HB1.out.size
  have hlt0 : w.heap.size < w1.heap.size := by have := hb1.size; simp at this; omega
  have HBA := Lib.hid (HB1.out.alloc (B := w.heap.size) hs1 (.cells #[.pointer none, .slice none 0 0] 68))
  have hbw : w1.heap.size ≤ (w1.alloc (.cells #[.pointer none, .slice none 0 0] 68)).heap.size := by simp
  clear hb1 HT0 HW0 CJ
  go_wp2_with fail
  go_loopw [9, 10] (fun lv kv wr => ∃ i : Nat, i ≤ M ∧ lv = .string ⟨(tk O I info i).toArray⟩ ∧ kv = .int .u64 (i + 1 : Nat) ∧ Lib.IsBuilder 68 5 w1.heap.size w1.heap.size (Lib.byteCells (outs O I info i)) wr ∧ (wr.cell? ⟨w.heap.size, 0, none⟩ = some (.string ⟨O.toArray⟩) ∧ wr.cell? ⟨w.heap.size, 1, none⟩ = some (.string ⟨I.toArray⟩)) ∧ Below w.heap.size w wr ∧ w1.heap.size ≤ wr.heap.size) (fun _ kv _ => M + 1 - (intOf kv).toNat)
  case atStart => exact ⟨0, Nat.zero_le _, rfl, rfl, HIB.out, HT1.out, HBA.out, hbw⟩
  case round =>
    clear HIB HT1 HBA hbw HB1
    generalize w1.heap.size = b at *
    obtain ⟨i, hi2, rfl, rfl, hIB, hT, hB, hbr⟩ := hrel
    have HI := Lib.hid hIB
    have HT := Lib.hid hT
    have HBr := Lib.hid hB
    have hL : (Lib.byteCells (outs O I info i)).length = 32 * i := by rw [byteCells_len, outs_len]
    have hM300 : M ≤ 255 := by have := HMM.out; omega
    have hlenr := Tryz.Builder_Len b b (Lib.byteCells (outs O I info i)) wr hIB
    rw [hL] at hlenr
    have HLEN := Lib.hid hlenr
    clear hlenr hIB hT hB
    by_cases hlt : 32 * i < n
    · have hiM : i < M := by have := HMM.out; omega
      have hlti : (((32 * i : Nat) : Int)) < (n : Int) := by omega
      have CF : Hid (∀ W : World, Calls Tryz.prog 88 #[.int .u64 (i + 1 : Nat), .int .i64 1] W fun e w' => e = .returned (.string ⟨(fx (i + 1) 1).toArray⟩) ∧ Below W.heap.size W w') := Lib.hid (fun W => vfixed (i + 1) 1 W (by omega) (by decide) (by decide))
      have hT1 := tk_len O I info i
      have CO : Hid (∀ W : World, Calls Tryz.prog 145 #[.agg #[.string ⟨O.toArray⟩, .string ⟨I.toArray⟩], .slice (some ⟨W.heap.size, 0, none⟩) 3 3] (W.alloc (.cells #[.string ⟨(tk O I info i).toArray⟩, .string ⟨info.toArray⟩, .string ⟨(fx (i + 1) 1).toArray⟩] 9)) fun e w' => e = .returned (.string ⟨(tk O I info (i + 1)).toArray⟩) ∧ Below W.heap.size W w') := Lib.hid (fun W => by
        have hf : (fx (i + 1) 1).length = 1 := fx_length _ _
        have hlen : (tk O I info i ++ info ++ fx (i + 1) 1).length ≤ 50000 := by rw [List.length_append, List.length_append, hf]; omega
        refine (of_of ⟨O.toArray⟩ ⟨I.toArray⟩ _ (tk O I info i ++ info ++ fx (i + 1) 1) (tk O I info (i + 1)) _ hO hI hlen rfl (Lib.hid fun W' hW' => join_new [⟨(tk O I info i).toArray⟩, ⟨info.toArray⟩, ⟨(fx (i + 1) 1).toArray⟩] _ rfl 3 rfl (by omega) _ (cat_3 _ _ _) (by omega) W W' W.heap.size rfl hW')).mono ?_
        rintro e w' ⟨h1, h2⟩
        exact ⟨h1, ((Below.refl _ _).alloc (Nat.le_refl _) _).trans (h2.mono (by simp))⟩)
      have HOS : Hid (Lib.byteCells (outs O I info (i + 1)) = Lib.byteCells (outs O I info i) ++ Lib.strCells ⟨(tk O I info (i + 1)).toArray⟩) := Lib.hid (by rw [strCells_of, ← byteCells_app]; rfl)
      have ht2 : (⟨(tk O I info (i + 1)).toArray⟩ : ByteArray).size = 32 := hm_len _ _ _
      obtain ⟨T2, hT2⟩ : ∃ T2, tk O I info (i + 1) = T2 := ⟨_, rfl⟩
      rw [hT2] at CO HOS ht2
      have HT2E := Lib.hid hT2
      clear hT2
      generalize tk O I info i = T1 at *
      generalize fx (i + 1) 1 = F1 at *
      obtain ⟨q, hq⟩ : ∃ q, 32 * i = q := ⟨_, rfl⟩
      obtain ⟨k1, hk1⟩ : ∃ k1, i + 1 = k1 := ⟨_, rfl⟩
      rw [hq] at HLEN hlti hL
      rw [hk1] at CF ⊢
      have HQ := Lib.hid hq
      have HK1 := Lib.hid hk1
      have hk256 : k1 ≤ 256 := by omega
      have hq1 : q ≤ 8160 := by omega
      clear hq hk1 hlt
      go_wp2_with fail
      refine HLEN.out.mono ?_
      rintro e w' ⟨rfl, hw'⟩
      rw [hw']
      clear HLEN hw'
      go_wp2_with fail
      refine wp_region_noPanic ?_
      refine wp_region_held_drew (S := fun w' : World => w'.cell? ⟨w.heap.size, 0, none⟩ = some (.string ⟨O.toArray⟩) ∧ w'.cell? ⟨w.heap.size, 1, none⟩ = some (.string ⟨I.toArray⟩)) (by kernel_rfl) ?_ (fun hHeld => ?_)
      · exact (show wr.cell? _ = _ ∧ wr.cell? _ = _ from HT.out)
      refine wpAnyH_take (i := 0) (v := ?_) rfl (by kernel_rfl) (by kernel_rfl) (by kernel_rfl) (fun _ _ _ h => h) (Or.inl ⟨by rfl, ?_⟩) (by assumption) ?_
      rotate_left
      · (intro w hSw; (obtain ⟨hS0, hS1⟩ := hSw); go_simp; (try with_reducible rfl))
      try simp only [Act.put, List.getElem_toArray, List.getElem_cons_zero, List.getElem_cons_succ, List.setIfInBounds_toArray, List.set_cons_zero, List.set_cons_succ]
      refine wpAnyH_take (i := 1) (v := ?_) rfl (by kernel_rfl) (by kernel_rfl) (by kernel_rfl) (fun _ _ _ h => h) (Or.inl ⟨by rfl, ?_⟩) (by assumption) ?_
      rotate_left
      · (intro w hSw; (obtain ⟨hS0, hS1⟩ := hSw); go_simp; (try with_reducible rfl))
      try simp only [Act.put, List.getElem_toArray, List.getElem_cons_zero, List.getElem_cons_succ, List.setIfInBounds_toArray, List.set_cons_zero, List.set_cons_succ]
      refine wpAnyH_take (i := 2) (v := ?_) rfl (by kernel_rfl) (by kernel_rfl) (by kernel_rfl) (fun _ _ _ h => h) (Or.inl ⟨by rfl, ?_⟩) (by assumption) ?_
      rotate_left
      · (intro w hSw; (obtain ⟨hS0, hS1⟩ := hSw); go_simp; (try with_reducible rfl))
      try simp only [Act.put, List.getElem_toArray, List.getElem_cons_zero, List.getElem_cons_succ, List.setIfInBounds_toArray, List.set_cons_zero, List.set_cons_succ]
      refine wpAnyH_take (i := 3) (v := ?_) rfl (by kernel_rfl) (by kernel_rfl) (by kernel_rfl) (fun _ _ _ h => h) (Or.inl ⟨by rfl, ?_⟩) (by assumption) ?_
      rotate_left
      · (intro w hSw; (obtain ⟨hS0, hS1⟩ := hSw); go_simp; (try with_reducible rfl))
      try simp only [Act.put, List.getElem_toArray, List.getElem_cons_zero, List.getElem_cons_succ, List.setIfInBounds_toArray, List.set_cons_zero, List.set_cons_succ]
      refine wpAnyH_take (i := 4) (v := ?_) rfl (by kernel_rfl) (by kernel_rfl) (by kernel_rfl) (fun _ _ _ h => h) (Or.inl ⟨by rfl, ?_⟩) (by assumption) ?_
      rotate_left
      · (intro w hSw; (obtain ⟨hS0, hS1⟩ := hSw); go_simp; (try with_reducible rfl))
      try simp only [Act.put, List.getElem_toArray, List.getElem_cons_zero, List.getElem_cons_succ, List.setIfInBounds_toArray, List.set_cons_zero, List.set_cons_succ]
      refine wpAnyH_ready (rs := [5]) (by kernel_rfl) (by simp) ?_
      refine AllReadyH.cons rfl (fun K hK => ?_) AllReadyH.nil
      rw [if_pos (by rfl)]
      go_simp
      with_reducible refine (CF.out _).mono ?_
      rintro e w2 ⟨rfl, hb2⟩
      have HT2 := Lib.hid (two_call (show wr.drew.cell? _ = _ ∧ wr.drew.cell? _ = _ from HT.out) hb2)
      have HI2 := Lib.hid (ib_keep (show Lib.IsBuilder 68 5 b b _ wr.drew from HI.out) hb2)
      have HB2 := Lib.hid ((below_drew HBr.out).trans (hb2.mono HBr.out.size))
      have hs2 : wr.heap.size ≤ w2.heap.size := hb2.size
      clear hb2
      refine hK.out _ _ ?_ (fun hHeld => ?_)
      · exact HT2.out
      clear hK K
      try simp only [Act.put, List.getElem_toArray, List.getElem_cons_zero, List.getElem_cons_succ, List.setIfInBounds_toArray, List.set_cons_zero, List.set_cons_succ]
      refine wpAnyH_ready (rs := [6]) (by kernel_rfl) (by simp) ?_
      refine AllReadyH.cons rfl (fun K hK => ?_) AllReadyH.nil
      rw [if_pos (by rfl)]
      go_simp
      refine hK.out _ _ ?_ (fun hHeld => ?_)
      · exact two_alloc HT2.out _
      clear hK K
      try simp only [Act.put, List.getElem_toArray, List.getElem_cons_zero, List.getElem_cons_succ, List.setIfInBounds_toArray, List.set_cons_zero, List.set_cons_succ]
      refine wpAnyH_ready (rs := [7]) (by kernel_rfl) (by simp) ?_
      refine AllReadyH.cons rfl (fun K hK => ?_) AllReadyH.nil
      rw [if_pos (by rfl)]
      go_simp
      with_reducible refine (CO.out w2).mono ?_
      rintro e w3 ⟨rfl, hb3⟩
      have HT3 := Lib.hid (two_call HT2.out hb3)
      have HI3 := Lib.hid (ib_keep HI2.out hb3)
      have HB3 := Lib.hid (HB2.out.trans (hb3.mono HB2.out.size))
      have hs3 := hb3.size
      clear hb3
      refine hK.out _ _ ?_ (fun hHeld => ?_)
      · exact HT3.out
      clear hK K
      try simp only [Act.put, List.getElem_toArray, List.getElem_cons_zero, List.getElem_cons_succ, List.setIfInBounds_toArray, List.set_cons_zero, List.set_cons_succ]
      refine wpAnyH_take (i := 8) (v := ?_) rfl (by kernel_rfl) (by kernel_rfl) (by kernel_rfl) (fun _ _ _ h => h) (Or.inl ⟨by rfl, ?_⟩) (by assumption) ?_
      rotate_left
      · (intro w hSw; (obtain ⟨hS0, hS1⟩ := hSw); go_simp; (try with_reducible rfl))
      try simp only [Act.put, List.getElem_toArray, List.getElem_cons_zero, List.getElem_cons_succ, List.setIfInBounds_toArray, List.set_cons_zero, List.set_cons_succ]
      refine wpAnyH_done (by kernel_rfl) (NoPanic.normal ?_) _
      go_wp2_with fail
      refine (Bld.writeString b b _ _ _ HI3.out (by rw [hL]; rw [ht2]; omega) (by omega)).mono ?_
      rintro e w4 ⟨rfl, h4, hb4⟩
      rw [← HOS.out] at h4
      have HI4 := Lib.hid h4
      have HT4 := Lib.hid (two_below HT3.out hb4 hlt0)
      have HB4 := Lib.hid (HB3.out.trans (hb4.mono (by omega)))
      have hs4 := hb4.size
      clear h4 hb4
      go_wp2
      go_roundw
      case rel => exact ⟨k1, by have := HK1.out; omega, by rw [← HK1.out, HT2E.out], by go_num, by rw [← HK1.out]; exact HI4.out, HT4.out, HB4.out, by omega⟩
      case measure => simp [intOf]; have := HK1.out; omega
    · have hiM : i = M := by have := HMM.out; omega
      have hlti : ¬ (((32 * i : Nat) : Int)) < (n : Int) := by omega
      subst hiM
      have HSTR := Lib.hid (Tryz.Builder_String_any b b (outs O I info i) wr HI.out hbr)
      obtain ⟨Y, hY⟩ : ∃ Y : ByteArray, ⟨(outs O I info i).toArray⟩ = Y := ⟨_, rfl⟩
      have hYs : Y.size = 32 * i := by rw [← hY]; exact outs_len O I info i
      have HYX : Hid (Y.extract 0 n = ⟨X.toArray⟩) := Lib.hid (by rw [← hY, HX.out]; exact sv_to _ n)
      rw [hY] at HSTR
      obtain ⟨q, hq⟩ : ∃ q, 32 * i = q := ⟨_, rfl⟩
      rw [hq] at HLEN hlti hL hYs
      have hnq : (n : Int) ≤ (q : Int) := by omega
      clear hY hq hlt
      go_wp2_with fail
      refine HLEN.out.mono ?_
      rintro e w' ⟨rfl, hw'⟩
      rw [hw']
      clear HLEN hw'
      go_wp2_with fail
      refine HSTR.out.mono ?_
      rintro e w5 ⟨rfl, hb5⟩
      have HB5 := Lib.hid (HBr.out.trans (hb5.mono (by omega)))
      clear hb5 HSTR
      go_wp2
      go_ret
      exact ⟨by rw [← HYX.out]; rfl, HB5.out⟩
end Go.Proofs.YtagbkmoahflfdaaGreatDoor.Kd
